/- Walks: a path's replacement. -/
import Derived.Test.YtkmachhfibcdlaaDoorCd
namespace Go.Proofs.YtkmachhfibcdlaaDoor
set_option linter.unusedVariables false
set_option linter.unusedSimpArgs false
open Go.ChangeShapes Go.WideShapes Go.ChangeAt Go.RowKit

/-- The reader while a replacement is put to the others. -/
structure RB (b L : Nat) (hl : Option Obj) (R : MR) (I : List Rp) (v : Value) (w : World) : Prop where
  f : ∃ u, w.heap[b]? = some (.cells (mrA R.path R.lvl u R.lev R.blk) 39 (0, 0)) ∧ w.ownsRow (b + 1) 34 2 v I.length (LF rpV I) ∧ v.ownBlock ≠ some L
  ne : L ≠ b
  lt : L < w.heap.size
  at_ : w.heap[L]? = hl
structure RBE (b L : Nat) (hl : Option Obj) (R : MR) (I : List Rp) (v0 v : Value) (w : World) : Prop where
  e : v = v0
  b : RB b L hl R I v0 w
structure RF_ (b L : Nat) (hl : Option Obj) (R : MR) (v : Value) (w : World) : Prop where
  f : RdM b L R w
  at_ : w.heap[L]? = hl
theorem RB.st1 (b L : Nat) (hl : Option Obj) (R : MR) (I : List Rp) : K3.St1 (RB b L hl R I) := fun v w1 w2 h hB => by
  obtain ⟨u, h1, h2, h3⟩ := h.f
  exact ⟨⟨u, (hB.block _ (lt_of_block h1)).trans h1, gen_own_below h2 hB, h3⟩, h.ne, Nat.lt_of_lt_of_le h.lt hB.size, (hB.block _ h.lt).trans h.at_⟩
theorem RBE.st1 (b L : Nat) (hl : Option Obj) (R : MR) (I : List Rp) (v0 : Value) : K3.St1 (RBE b L hl R I v0) := fun v w1 w2 h hB => ⟨h.e, RB.st1 _ _ _ _ _ v0 w1 w2 h.b hB⟩
theorem RF_.st1 (b L : Nat) (hl : Option Obj) (R : MR) : K3.St1 (RF_ b L hl R) := fun v w1 w2 h hB => ⟨h.f.below hB, (hB.block _ h.f.lt).trans h.at_⟩
theorem RB.grow {b L : Nat} {hl : Option Obj} {R : MR} {I : List Rp} {v v' : Value} {w w' : World} {x : Rp} (h : RB b L hl R I v w) (ho : w'.ownsRow (b + 1) 34 2 v' (I.length + [x].length) (LF rpV I ++ LF rpV [x])) (hg : w.grownBy w' v.ownBlock) (ha : v'.ownBlock = v.ownBlock ∨ v'.ownBlock = some w.heap.size) :
    RB b L hl R (I ++ [x]) v' w' ∧ Below b w w' := by
  obtain ⟨u, h1, h2, h3⟩ := h.f
  have hB : Below (b + 1) w w' := (Below.refl _ _).grown hg (by have := lt_of_block h1; omega) (fun k hk => (h2.lt k hk).1)
  refine ⟨⟨⟨u, (hB.block b (by omega)).trans h1, by rw [List.length_append, LF_app]; exact ho, ?_⟩, h.ne, Nat.lt_of_lt_of_le h.lt hB.size, (hg.block L h.lt (fun e => h3 e.symm)).trans h.at_⟩, hB.mono (by omega)⟩
  rcases ha with e | e
  · rw [e]; exact h3
  · rw [e]; intro e2; have := h.lt; simp only [Option.some.injEq] at e2; omega
theorem RB.store {b L : Nat} {hl : Option Obj} {R : MR} {I : List Rp} {v : Value} {w : World} (h : RB b L hl R I v w) : RdM b L { R with reps := I } (w.setCell ⟨b, 2, none⟩ v) ∧ (w.setCell ⟨b, 2, none⟩ v).heap[L]? = hl := by
  obtain ⟨u, h1, h2, h3⟩ := h.f
  refine ⟨⟨⟨v, ?_, ownsRow_setCell_below h2 (by show b < b + 1; omega) _, h3⟩, h.ne, by have := h.lt; simpa [World.setCell] using this⟩, ((kept_set (i := 2) (v := v) h.ne).at_).trans h.at_⟩
  have h := block_set (i := 2) (u := v) h1
  simpa [mrA] using h
theorem own_sliceR {w : World} {base : Nat} {v : Value} {n : Nat} {xs : List Value} (h : w.ownsRow base 34 2 v n xs) : ∃ p c, v = .slice p n c := by
  rcases h.2 with ⟨h1, h2⟩ | ⟨g, cap, cur, hv, _⟩
  · subst h1; exact ⟨none, 0, by rw [h2]⟩
  · exact ⟨_, cap, hv⟩
theorem slice_rp (w : World) (x : Rp) : (Instr.buildSlice 25 1 #[(0, .agg (rpV x).toArray)]).run Tryd.prog w = .ok (.slice (some ⟨w.heap.size, 0, none⟩) 1 1) (w.alloc (.cells (rpV x).toArray 34)) := by
  simp [rpV, go_sem, Instr.buildSlice]
theorem build_rp (w : World) (x y : ByteArray) : (Instr.build 34 #[(0, .string x), (1, .string y)]).run Tryd.prog w = .ok (.agg (rpV (x, y)).toArray) w := by
  simp [rpV, go_sem, Instr.build]
theorem out_store25 {o : Oper} {ρ : Operand → Value} {w : World} {φ : Value → World → Prop} {x y : Operand} {B i t : Nat} {p : Option Addr} {n c : Nat} {R : Array Value} (ho : o.op = .store 25 x y) (hx : ρ x = .pointer (some ⟨B, i, none⟩)) (hy : ρ y = .slice p n c)
    (hg : w.heap[B]? = some (.cells R t (0, 0))) (hi : i < R.size) (hφ : φ undef (w.setCell ⟨B, i, none⟩ (.slice p n c))) : K3.Out Tryd.prog o ρ w φ := by
  have hc : w.cell? ⟨B, i, none⟩ = some R[i] := by simp [World.cell?, hg, hi]
  have hf : w.frozen? ⟨B, i, none⟩ = false := by simp [World.frozen?, hg]
  have hw : (storeVar 25 ⟨B, i, none⟩ (.slice p n c)).run Tryd.prog w = .ok () (w.setCell ⟨B, i, none⟩ (.slice p n c)) := by
    simp [storeVar, go_sem, hc, hf]
  unfold K3.Out execOp
  simp only [ho, hx, hy, Instr.storeAt, Instr.sureAddr, Sem.run_bind, Sem.run_pure, Result.andThen_ok, hw]
  exact hφ
theorem lat_strs {w : World} {v : Value} {ss : List ByteArray} (h : LAt 1 strV w v ss) : Strs w v ss := by
  rcases h.2 with ⟨p, cap, rfl, rfl⟩ | ⟨b, off, cap, rfl, hb, h1, h2, hc⟩
  · exact .inl ⟨⟨p, cap, rfl⟩, rfl⟩
  · refine .inr ⟨b, off, cap, rfl, h1, h2, hb, fun i hi => (str_cell h (show ss[i]? = some (ss.getD i ByteArray.empty) by rw [List.getD_eq_getElem?_getD, List.getElem?_eq_getElem hi]; rfl)).2⟩
theorem strs_drop {w : World} {g off cap : Nat} {ws : List ByteArray} (h : Strs w (.slice (some ⟨g, off, none⟩) ws.length cap) ws) (k : Nat) (hk : k ≤ ws.length) :
    Strs w (.slice (if cap = k then some ⟨g, off, none⟩ else some ⟨g, off + k, none⟩) (ws.length - k) (cap - k)) (ws.drop k) := by
  have hcl : ws.length ≤ cap := by
    rcases (Nat.eq_zero_or_pos ws.length) with h0 | h0
    · omega
    · exact (h.cells.2 h0).1
  have hcm : k ≤ maxLen := by
    rcases (Nat.eq_zero_or_pos ws.length) with h0 | h0
    · omega
    · have := h.cells.2 h0; omega
  obtain ⟨vt, hrun, hvt⟩ := gen_drop eltS (strs_lat h) k hk
  have hz : (sizeOf 9).run Tryd.prog w = .ok 1 w := by
    obtain ⟨i0, z, hi, hz0, hz1, _⟩ := eltS.inf
    simp [sizeOf, typeInfo, hi, hz1]
  have h1 := hrun w
  rw [run_slice_l w 23 _ _ _ (by rw [eltS.el]; exact eltS.tu) .i64 (k : Nat) (by omega) (by omega), eltS.el, hz] at h1
  simp only [Result.andThen_ok, sliced, Int.toNat_natCast, Option.map_some, gen_add_off, Nat.mul_one] at h1
  simp only [Result.ok.injEq, and_true] at h1
  rw [← h1] at hvt
  exact lat_strs hvt
theorem idxFrom_or (x : ByteArray) : ∀ (l : List ByteArray) (i : Nat), Lib.idxFromS l x i = -1 ∨ ∃ n : Nat, n < l.length ∧ Lib.idxFromS l x i = ((i + n : Nat) : Int)
  | [], i => .inl rfl
  | a :: l, i => by
    unfold Lib.idxFromS
    split
    · exact .inr ⟨0, by simp, by simp⟩
    · rcases idxFrom_or x l (i + 1) with h | ⟨n, hn, h⟩
      · exact .inl h
      · exact .inr ⟨n + 1, by simpa using hn, by rw [h]; congr 1; omega⟩
theorem idx_or (l : List ByteArray) (x : ByteArray) : Lib.idxOfS l x = -1 ∨ ∃ n : Nat, n < l.length ∧ Lib.idxOfS l x = (n : Int) := by
  rcases idxFrom_or x l 0 with h | ⟨n, hn, h⟩
  · exact .inl h
  · exact .inr ⟨n, hn, by unfold Lib.idxOfS; rw [h, Nat.zero_add]⟩
abbrev wArrow : ByteArray := ⟨#[61, 62]⟩
theorem index_of (p : Option Addr) (cap : Nat) (ws : List ByteArray) (w : World) (h : Strs w (.slice p ws.length cap) ws) (x : ByteArray) :
    Calls Tryd.prog 38 #[.slice p ws.length cap, .string x] w fun e w' => e = .returned (.int .i64 (Lib.idxOfS ws x)) ∧ w' = w := by
  obtain ⟨_, hp⟩ := h.cells
  rcases Nat.eq_zero_or_pos ws.length with h0 | h0
  · obtain rfl := List.eq_nil_of_length_eq_zero h0
    exact Tryd.slices_Index_string_empty p cap x w
  · obtain ⟨h1, h2, g, off, rfl, hg, hc⟩ := hp h0
    have := Tryd.slices_Index_string g off ws.length cap ws x w (Nat.le_refl _) (by unfold maxLen at h2; omega) (fun j hj => by rw [hc j hj, List.getD_eq_getElem?_getD, List.getElem?_eq_getElem hj]; rfl)
    rwa [List.take_length] at this
/-- A replacement: behind 'k' words, and the arrow, stand Y. -/
def replY (R : MR) (y : ByteArray) (Y : List ByteArray) : Bool × MR :=
  if Y.length < 1 ∨ 2 < Y.length then (false, R) else
  if dirB (Y.getD 0 ⟨#[]⟩) = false then (true, R) else
  if Y.length ≠ 1 ∨ R.reps.any (fun x => decide (x.1 = y)) = true then (false, R) else
  (true, { R with reps := R.reps ++ [(y, Y.getD 0 ⟨#[]⟩)] })
def replaceR (R : MR) (ws : List ByteArray) : Bool × MR :=
  if Lib.idxOfS ws wArrow < 1 ∨ 2 < Lib.idxOfS ws wArrow ∨ pathB (ws.getD 0 ⟨#[]⟩) = false then (false, R) else
  replY R (ws.getD 0 ⟨#[]⟩) (ws.drop ((Lib.idxOfS ws wArrow).toNat + 1))
set_option maxRecDepth 100000 in
set_option maxHeartbeats 8000000 in
theorem replace_any (b L : Nat) (R : MR) (p : Option Addr) (n cap : Nat) (ws : List ByteArray) (w : World) (h : RdM b L R w) (hW : Strs w (.slice p n cap) ws) (hs : ∀ x ∈ ws, x.size ≤ 1048576) (hI : R.reps.length ≤ 16777216) :
    Calls Tryd.prog 27 #[.pointer (some ⟨b, 0, none⟩), .slice p n cap] w fun e w' => e = .returned (.bool (replaceR R ws).1) ∧ RdM b L (replaceR R ws).2 w' ∧ Kept b L w w' := by
  obtain ⟨rfl, hp⟩ := hW.cells
  have HIX := Lib.hid (fun w1 (hB : Below w.heap.size w w1) => index_of p cap ws w1 (hW.below hB) wArrow)
  have H := Lib.hid h
  have HW := Lib.hid hW
  unfold wArrow at HIX
  rcases idx_or ws wArrow with hk | ⟨m, hm, hk⟩
  · have HR := Lib.hid (show replaceR R ws = (false, R) by unfold replaceR; rw [if_pos (.inl (by rw [hk]; decide))])
    unfold wArrow at hk
    rw [hk] at HIX
    clear hk h hW hp
    go_enter Tryd.func27, Tryd.ntmps27
    go_upto_region 1 with fail
    have hnew := heap_alloc_new w (.cells #[.slice p ws.length cap] 23)
    have hBa := (Below.refl w.heap.size w).alloc (Nat.le_refl _) (.cells #[.slice p ws.length cap] 23)
    have c0 := block_cell hnew 0
    have HB := Lib.hid hBa
    clear hBa hnew
    generalize w.alloc (.cells #[.slice p ws.length cap] 23) = w1 at *
    go_wp2_with fail
    refine (HIX.out _ HB.out).mono ?_
    rintro r w2 ⟨rfl, rfl⟩
    go_wp2_with fail
    go_ret
    rw [HR.out]
    exact ⟨rfl, H.out.below HB.out, H.out.of HB.out⟩
  obtain ⟨hc1, hc2, g, off, rfl, hgy, hcell⟩ := hp (by omega)
  have hcy := hcell 0 (by omega)
  rw [Nat.add_zero] at hcy
  have hlen0 : 0 < ws.length := by omega
  have hn0 : (0 : Int) < (ws.length : Int) := by omega
  have hys : (ws[0]'hlen0).size ≤ 1048576 := hs _ (List.getElem_mem _)
  have hg0 : ws.getD 0 ⟨#[]⟩ = ws[0]'hlen0 := by rw [List.getD_eq_getElem?_getD, List.getElem?_eq_getElem hlen0]; rfl
  have HR := Lib.hid (show replaceR R ws = if (m : Int) < 1 ∨ (2 : Int) < (m : Int) ∨ pathB (ws[0]'hlen0) = false then (false, R) else replY R (ws[0]'hlen0) (ws.drop (m + 1)) by
    unfold replaceR; rw [hk, hg0, Int.toNat_natCast])
  unfold wArrow at hk
  rw [hk] at HIX
  have HP := Lib.hid (fun w1 => path_any (ws[0]'hlen0) w1 hys)
  have hbx0 : ∃ y, y = ws[0]'hlen0 := ⟨_, rfl⟩
  obtain ⟨y, hy⟩ := hbx0
  rw [← hy] at HR HP hcy hys
  clear hk h hW hp hcell hy hg0
  go_enter Tryd.func27, Tryd.ntmps27
  go_upto_region 1 with fail
  have hnew := heap_alloc_new w (.cells #[.slice (some ⟨g, off, none⟩) ws.length cap] 23)
  have hBa := (Below.refl w.heap.size w).alloc (Nat.le_refl _) (.cells #[.slice (some ⟨g, off, none⟩) ws.length cap] 23)
  have c0 := block_cell hnew 0
  have HB := Lib.hid hBa
  have Hnew := Lib.hid hnew
  have d0 := (hBa.cell (p := ⟨g, off, none⟩) hgy).trans hcy
  have hg1 := Nat.lt_of_lt_of_le hgy hBa.size
  clear hBa hnew hcy
  generalize w.alloc (.cells #[.slice (some ⟨g, off, none⟩) ws.length cap] 23) = w1 at *
  generalize hbx : w.heap.size = bx at *
  have H1 := Lib.hid (H.out.below (hbx ▸ HB.out))
  have HK1 := Lib.hid (H.out.of (hbx ▸ HB.out))
  have HW1 := Lib.hid (HW.out.below (hbx ▸ HB.out))
  clear H HW
  go_wp2_with fail
  refine (HIX.out _ HB.out).mono ?_
  rintro r w2 ⟨rfl, rfl⟩
  clear HIX
  by_cases hm1 : m < 1
  · have hm1I : (m : Int) < 1 := by omega
    have HS := Lib.hid (show replaceR R ws = (false, R) by rw [HR.out, if_pos (.inl hm1I)])
    go_wp2_with fail
    go_ret
    rw [HS.out]
    exact ⟨rfl, H1.out, HK1.out⟩
  have hm1I : ¬ (m : Int) < 1 := by omega
  by_cases hm2 : 2 < m
  · have hm2I : (2 : Int) < (m : Int) := by omega
    have HS := Lib.hid (show replaceR R ws = (false, R) by rw [HR.out, if_pos (.inr (.inl hm2I))])
    go_wp2_with fail
    go_ret
    rw [HS.out]
    exact ⟨rfl, H1.out, HK1.out⟩
  have hm2I : ¬ (2 : Int) < (m : Int) := by omega
  have HR2 := Lib.hid (show replaceR R ws = if pathB y = false then (false, R) else replY R y (ws.drop (m + 1)) by
    rw [HR.out]
    by_cases hq : pathB y = false
    · rw [if_pos (.inr (.inr hq)), if_pos hq]
    · rw [if_neg (by rintro (h | h | h); exact hm1I h; exact hm2I h; exact hq h), if_neg hq])
  clear HR
  obtain ⟨pb, hpb⟩ : ∃ pb, pathB y = pb := ⟨_, rfl⟩
  rw [hpb] at HP HR2
  clear hpb
  go_wp2_with fail
  refine (HP.out _).mono ?_
  rintro r w3 ⟨rfl, hB⟩
  have H3 := Lib.hid (H1.out.below hB)
  have HK3 := Lib.hid (HK1.out.trans (H1.out.of hB))
  have HW3 := Lib.hid (HW1.out.below hB)
  have Hbx := Lib.hid ((hB.block bx (lt_of_block Hnew.out)).trans Hnew.out)
  have d3 := (hB.cell (p := ⟨g, off, none⟩) hg1).trans d0
  have hg3 := Nat.lt_of_lt_of_le hg1 hB.size
  have c3 := block_cell Hbx.out 0
  clear hB H1 HK1 HW1 Hnew d0 c0 HP
  cases pb with
  | false =>
    have HS := Lib.hid (show replaceR R ws = (false, R) by rw [HR2.out, if_pos rfl])
    go_wp2_with fail
    go_ret
    rw [HS.out]
    exact ⟨rfl, H3.out, HK3.out⟩
  | true =>
  have HR3 := Lib.hid (show replaceR R ws = replY R y (ws.drop (m + 1)) by rw [HR2.out, if_neg Bool.noConfusion])
  clear HR2
  have hdrop := strs_drop HW3.out (m + 1) (by omega)
  have HY := Lib.hid hdrop
  have hcl : ws.length ≤ cap := hc1
  have hmI1 : (0 : Int) ≤ (m : Int) + 1 := by omega
  clear hdrop
  go_upto_region 4 with fail
  go_cut [6] from 23 to 6 (fun x wx => (∃ p2 c2, x = .slice p2 (ws.drop (m + 1)).length c2 ∧ Strs w3 (.slice p2 (ws.drop (m + 1)).length c2) (ws.drop (m + 1))) ∧ wx = w3)
  case first =>
    by_cases hce : cap = m + 1
    · subst hce
      have hle : ((ws.length : Nat) : Int) ≤ ((m + 1 : Nat) : Int) := by omega
      go_wp2_with fail
      go_meet
      have e : ws.drop (m + 1) = [] := List.drop_eq_nil_of_le (by omega)
      exact ⟨⟨some ⟨g, off, none⟩, 0, by rw [e]; rfl, by rw [e]; exact .inl ⟨⟨_, _, rfl⟩, rfl⟩⟩, rfl⟩
    · have hct : m + 1 < cap := by omega
      have hctI : (m : Int) + 1 < (cap : Int) := by omega
      have hcz : cap - (m + 1) ≠ 0 := by omega
      go_wp2_with fail
      go_meet
      have := HY.out
      rw [if_neg hce] at this
      exact ⟨⟨some ⟨g, off + (m + 1), none⟩, cap - (m + 1), by rw [List.length_drop], by rw [List.length_drop]; exact this⟩, rfl⟩
  case rest =>
    obtain ⟨⟨p2, c2, rfl, hY⟩, rfl⟩ := hcut
    clear HY HW3 hmI1 hm1I hm2I hm1 hm2
    generalize ws.drop (m + 1) = Y at *
    obtain ⟨_, hq⟩ := hY.cells
    by_cases hY1 : Y.length < 1
    · have hY1I : (Y.length : Int) < 1 := by omega
      have HS := Lib.hid (show replaceR R ws = (false, R) by rw [HR3.out]; unfold replY; rw [if_pos (.inl hY1)])
      go_wp2_with fail
      go_ret
      rw [HS.out]
      exact ⟨rfl, H3.out, HK3.out⟩
    have hY1I : ¬ (Y.length : Int) < 1 := by omega
    by_cases hY2 : 2 < Y.length
    · have hY2I : (2 : Int) < (Y.length : Int) := by omega
      have HS := Lib.hid (show replaceR R ws = (false, R) by rw [HR3.out]; unfold replY; rw [if_pos (.inr hY2)])
      go_wp2_with fail
      go_ret
      rw [HS.out]
      exact ⟨rfl, H3.out, HK3.out⟩
    have hY2I : ¬ (2 : Int) < (Y.length : Int) := by omega
    have hY0 : 0 < Y.length := by omega
    have hn2 : (0 : Int) < (Y.length : Int) := by omega
    obtain ⟨_, _, g2, off2, rfl, hgz, hcz⟩ := hq hY0
    have hcz := hcz 0 hY0
    rw [Nat.add_zero] at hcz
    have hz0 : Y.getD 0 ⟨#[]⟩ = Y[0]'hY0 := by rw [List.getD_eq_getElem?_getD, List.getElem?_eq_getElem hY0]; rfl
    have HR4 := Lib.hid (show replaceR R ws = if dirB (Y[0]'hY0) = false then (true, R) else if Y.length ≠ 1 ∨ R.reps.any (fun x => decide (x.1 = y)) = true then (false, R) else (true, { R with reps := R.reps ++ [(y, Y[0]'hY0)] }) by
      rw [HR3.out]; unfold replY
      rw [if_neg (by omega), hz0])
    have HD := Lib.hid (fun w1 => dir_any (Y[0]'hY0) w1)
    clear hz0 HR3 hY hq
    generalize (Y[0]'hY0) = z at *
    generalize dirB z = db at *
    go_wp2_with fail
    refine (HD.out _).mono ?_
    rintro r w4 ⟨rfl, rfl⟩
    clear HD
    cases db with
    | false =>
      have HS := Lib.hid (show replaceR R ws = (true, R) by rw [HR4.out, if_pos rfl])
      go_wp2_with fail
      go_ret
      rw [HS.out]
      exact ⟨rfl, H3.out, HK3.out⟩
    | true =>
    obtain ⟨rv, hb3, ho3, hL3⟩ := H3.out.f
    obtain ⟨pt, ct, rfl⟩ := own_sliceR ho3
    have e2 := block_cell hb3 2
    rw [show (mrA R.path R.lvl (.slice pt R.reps.length ct) R.lev R.blk)[2]? = some (.slice pt R.reps.length ct) from rfl] at e2
    have HT := Lib.hid (twice_any bx y R.reps _ wc ⟨⟨g, off, ws.length, cap, Hbx.out, hlen0, hg3, d3⟩⟩ (LAt.own (fun x _ => rpV_len x) ho3) hI)
    have HR5 := Lib.hid (show replaceR R ws = if Y.length ≠ 1 ∨ R.reps.any (fun x => decide (x.1 = y)) = true then (false, R) else (true, { R with reps := R.reps ++ [(y, z)] }) by
      rw [HR4.out, if_neg Bool.noConfusion])
    clear HR4 hL3
    obtain ⟨tw, htw⟩ : ∃ tw, R.reps.any (fun x => decide (x.1 = y)) = tw := ⟨_, rfl⟩
    rw [htw] at HT HR5
    clear htw
    have HL0 := Lib.hid (And.intro hb3 ho3)
    clear hb3 ho3
    go_wp2_with fail
    refine HT.out.mono ?_
    rintro r w10 ⟨rfl, hB⟩
    have H10 := Lib.hid (H3.out.below hB)
    have HB10 := Lib.hid (HK3.out.trans (H3.out.of hB))
    have hbb := (hB.block bx (lt_of_block Hbx.out)).trans Hbx.out
    have hcy := (hB.cell (p := ⟨g, off, none⟩) hg3).trans d3
    have hcz := (hB.cell (p := ⟨g2, off2, none⟩) hgz).trans hcz
    have hgy := Nat.lt_of_lt_of_le hg3 hB.size
    have hgz := Nat.lt_of_lt_of_le hgz hB.size
    have Hbb := Lib.hid hbb
    have Hcy := Lib.hid hcy
    have Hcz := Lib.hid hcz
    clear hB HT HL0 H3 HK3 hbb hcy hcz Hbx d3 c3 e2
    by_cases hY3 : Y.length = 1
    case neg =>
      have u1 : ((Y.length : Int) == 1) = false := beq_eq_false_iff_ne.2 (by omega)
      have u1n := ne_of_eqb u1
      have HS := Lib.hid (show replaceR R ws = (false, R) by rw [HR5.out, if_pos (.inl hY3)])
      clear hY3
      go_wp2_with fail
      go_ret
      rw [HS.out]
      exact ⟨rfl, H10.out, HB10.out⟩
    have u1 : ((Y.length : Int) == 1) = true := beq_iff_eq.2 (by omega)
    have u1n := ne_of_eqb u1
    cases tw with
    | true =>
      have HS := Lib.hid (show replaceR R ws = (false, R) by rw [HR5.out, if_pos (.inr rfl)])
      clear hY3
      go_wp2_with fail
      go_ret
      rw [HS.out]
      exact ⟨rfl, H10.out, HB10.out⟩
    | false =>
    have HS := Lib.hid (show replaceR R ws = (true, { R with reps := R.reps ++ [(y, z)] }) by rw [HR5.out, if_neg (by rintro (h | h); exact h hY3; cases h)])
    clear HR5 hY3
    go_wp2_with fail
    have hlt := H10.out.bl
    have hne0 := H10.out.ne
    have hL1 := H10.out.lt
    have hd4 : Below w10.heap.size w10 w10.drew := (Below.refl _ _).drew
    obtain ⟨rv, hbox, hI0, hL0⟩ := H10.out.f
    obtain ⟨pt, ct, rfl⟩ := own_sliceR hI0
    have hble : b ≤ w10.heap.size := Nat.le_of_lt hlt
    have hbb := Hbb.out
    have hcy := Hcy.out
    have hcz := Hcz.out
    obtain ⟨hl, hhl⟩ : ∃ hl, w10.heap[L]? = hl := ⟨_, rfl⟩
    have hRL : ∃ Rs : List (Value → World → Prop), Rs = [K3.PureV (.pointer (some ⟨b, 0, none⟩)),
        K3.PureV (.pointer (some ⟨b, 0, none⟩)),
        K3.PureV (.pointer (some ⟨b, 0, none⟩)),
        K3.PureV (.pointer (some ⟨b, 0, none⟩)),
        K3.PureV (.pointer (some ⟨b, 2, none⟩)),
        RBE b L hl R R.reps (.slice pt R.reps.length ct),
        K3.PureV (.slice (some ⟨g, off, none⟩) ws.length cap),
        K3.PureV (.pointer (some ⟨g, off, none⟩)),
        K3.PureV (.string y),
        K3.PureV (.slice (some ⟨g2, off2, none⟩) Y.length c2),
        K3.PureV (.pointer (some ⟨g2, off2, none⟩)),
        K3.PureV (.string z),
        K3.PureV (.agg (rpV (y, z)).toArray),
        K3.NewB 1 (rpV (y, z)).toArray 34,
        RB b L hl R (R.reps ++ [(y, z)]),
        K3.PureV (.pointer (some ⟨b, 0, none⟩)),
        K3.PureV (.pointer (some ⟨b, 0, none⟩)),
        K3.PureV (.pointer (some ⟨b, 2, none⟩)),
        RF_ b L hl { R with reps := R.reps ++ [(y, z)] }] := ⟨_, rfl⟩
    obtain ⟨Rs, hRs⟩ := hRL
    refine K3.wp_region_rel2 b hble (K3.RL Rs) [2, 2, 2, 2, 2, 1, 2, 2, 2, 2, 2, 2, 2, 1, 1, 2, 2, 2, 1] [1, 1, 1, 1, 1, 1, 1, 1, 1, 1, 1, 1, 1, 1, 2, 1, 1, 1, 2] [[], [], [], [], [], [], [], [], [], [], [], [], [], [], [5, 13], [], [], [], [5, 13, 14]] (by kernel_rfl) (by kernel_rfl) (K3.RL.st1 (by rw [hRs]; exact K3.st1_cons (K3.PureV.st1 _) (K3.st1_cons (K3.PureV.st1 _) (K3.st1_cons (K3.PureV.st1 _) (K3.st1_cons (K3.PureV.st1 _) (K3.st1_cons (K3.PureV.st1 _) (K3.st1_cons (RBE.st1 _ _ _ _ _ _) (K3.st1_cons (K3.PureV.st1 _) (K3.st1_cons (K3.PureV.st1 _) (K3.st1_cons (K3.PureV.st1 _) (K3.st1_cons (K3.PureV.st1 _) (K3.st1_cons (K3.PureV.st1 _) (K3.st1_cons (K3.PureV.st1 _) (K3.st1_cons (K3.PureV.st1 _) (K3.st1_cons (K3.NewB.st1 _ _ _) (K3.st1_cons (RB.st1 _ _ _ _ _) (K3.st1_cons (K3.PureV.st1 _) (K3.st1_cons (K3.PureV.st1 _) (K3.st1_cons (K3.PureV.st1 _) (K3.st1_cons (RF_.st1 _ _ _ _) (K3.st1_nil))))))))))))))))))))) (K3.RL.st2 (by rw [hRs]; exact K3.st2_cons (K3.PureV.st2 _ _ _) (K3.st2_cons (K3.PureV.st2 _ _ _) (K3.st2_cons (K3.PureV.st2 _ _ _) (K3.st2_cons (K3.PureV.st2 _ _ _) (K3.st2_cons (K3.PureV.st2 _ _ _) (K3.st2_skip (K3.st2_cons (K3.PureV.st2 _ _ _) (K3.st2_cons (K3.PureV.st2 _ _ _) (K3.st2_cons (K3.PureV.st2 _ _ _) (K3.st2_cons (K3.PureV.st2 _ _ _) (K3.st2_cons (K3.PureV.st2 _ _ _) (K3.st2_cons (K3.PureV.st2 _ _ _) (K3.st2_cons (K3.PureV.st2 _ _ _) (K3.st2_skip (K3.st2_skip (K3.st2_cons (K3.PureV.st2 _ _ _) (K3.st2_cons (K3.PureV.st2 _ _ _) (K3.st2_cons (K3.PureV.st2 _ _ _) (K3.st2_skip (K3.st2_nil))))))))))))))))))))) ?_ ?_ ?_
    · intro i o d hi hd
      have hmem := List.mem_of_getElem? hi
      simp only [List.mem_cons, List.not_mem_nil, or_false] at hmem
      rcases hmem with rfl | rfl | rfl | rfl | rfl | rfl | rfl | rfl | rfl | rfl | rfl | rfl | rfl | rfl | rfl | rfl | rfl | rfl | rfl <;> simp at hd <;> (subst hd; simp)
    · refine K3.rel_start (Φ := K3.Hop _ _ _ _ _ _ _) ?_
      refine K3.rel_cons (Φ := K3.Hop _ _ _ _ _ _ _) (k := 0) ?_ ?_
      · intro fa fw hfB hfN hfE hfk hft
        have k0 : fa.eval (.tmp 0) = .pointer (some ⟨b, 0, none⟩) := hft 0 (K3.mem_looks (by kernel_rfl)) (K3.noneed (by kernel_rfl))
        rw [hRs]
        refine K3.hop_plain rfl ?_
        refine K3.out_move rfl ?_
        exact ⟨k0, Below.refl _ _⟩
      refine K3.rel_cons (Φ := K3.Hop _ _ _ _ _ _ _) (k := 1) ?_ ?_
      · intro fa fw hfB hfN hfE hfk hft
        have k0 : fa.eval (.tmp 0) = .pointer (some ⟨b, 0, none⟩) := hft 0 (K3.mem_looks (by kernel_rfl)) (K3.noneed (by kernel_rfl))
        rw [hRs]
        refine K3.hop_plain rfl ?_
        refine K3.out_move rfl ?_
        exact ⟨k0, Below.refl _ _⟩
      refine K3.rel_cons (Φ := K3.Hop _ _ _ _ _ _ _) (k := 2) ?_ ?_
      · intro fa fw hfB hfN hfE hfk hft
        have k54 : fa.eval (.tmp 54) = (.pointer (some ⟨b, 0, none⟩)) := by have := hfk 1 (K3.mem_needs (by kernel_rfl)) _ rfl; rw [hRs] at this; exact this
        rw [hRs]
        refine K3.hop_plain rfl ?_
        generalize fa.eval = ρ at *
        exact K3.out_run (v := .pointer (some ⟨b, 0, none⟩)) (w' := fw) (by simp [execOp, k54, go_sem]) ⟨rfl, Below.refl _ _⟩
      refine K3.rel_cons (Φ := K3.Hop _ _ _ _ _ _ _) (k := 3) ?_ ?_
      · intro fa fw hfB hfN hfE hfk hft
        have k55 : fa.eval (.tmp 55) = (.pointer (some ⟨b, 0, none⟩)) := by have := hfk 2 (K3.mem_needs (by kernel_rfl)) _ rfl; rw [hRs] at this; exact this
        rw [hRs]
        refine K3.hop_plain rfl ?_
        generalize fa.eval = ρ at *
        exact K3.out_run (v := .pointer (some ⟨b, 0, none⟩)) (w' := fw) (by simp [execOp, k55, go_sem]) ⟨rfl, Below.refl _ _⟩
      refine K3.rel_cons (Φ := K3.Hop _ _ _ _ _ _ _) (k := 4) ?_ ?_
      · intro fa fw hfB hfN hfE hfk hft
        have k56 : fa.eval (.tmp 56) = (.pointer (some ⟨b, 0, none⟩)) := by have := hfk 3 (K3.mem_needs (by kernel_rfl)) _ rfl; rw [hRs] at this; exact this
        rw [hRs]
        refine K3.hop_plain rfl ?_
        generalize fa.eval = ρ at *
        exact K3.out_run (v := .pointer (some ⟨b, 2, none⟩)) (w' := fw) (by simp [execOp, k56, go_sem]) ⟨rfl, Below.refl _ _⟩
      refine K3.rel_cons (Φ := K3.Hop _ _ _ _ _ _ _) (k := 5) ?_ ?_
      · intro fa fw hfB hfN hfE hfk hft
        have hE : Below w10.drew.heap.size w10.drew fw := hfE (by kernel_rfl)
        have k57 : fa.eval (.tmp 57) = (.pointer (some ⟨b, 2, none⟩)) := by have := hfk 4 (K3.mem_needs (by kernel_rfl)) _ rfl; rw [hRs] at this; exact this
        rw [hRs]
        refine K3.hop_plain rfl ?_
        have hbx := (hE.block b (Nat.lt_of_lt_of_le hlt hd4.size)).trans (show w10.drew.heap[b]? = _ from hbox)
        have hB9 := hd4.trans (hE.mono hd4.size)
        exact out_load3 rfl k57 (by simp [mrA, go_sem, block_cell hbx]) ⟨⟨rfl, ⟨_, hbx, gen_own_below hI0 hB9, hL0⟩, hne0, Nat.lt_of_lt_of_le hL1 hB9.size, (hB9.block _ hL1).trans hhl⟩, Below.refl _ _⟩
      refine K3.rel_cons (Φ := K3.Hop _ _ _ _ _ _ _) (k := 6) ?_ ?_
      · intro fa fw hfB hfN hfE hfk hft
        have hE : Below w10.drew.heap.size w10.drew fw := hfE (by kernel_rfl)
        have k3 : fa.eval (.tmp 3) = .pointer (some ⟨bx, 0, none⟩) := hft 3 (K3.mem_looks (by kernel_rfl)) (K3.noneed (by kernel_rfl))
        rw [hRs]
        refine K3.hop_plain rfl ?_
        have hbx := (hE.block bx (Nat.lt_of_lt_of_le (lt_of_block hbb) hd4.size)).trans (show w10.drew.heap[bx]? = _ from hbb)
        exact out_load3 rfl k3 (by simp [go_sem, block_cell hbx]) ⟨rfl, Below.refl _ _⟩
      refine K3.rel_cons (Φ := K3.Hop _ _ _ _ _ _ _) (k := 7) ?_ ?_
      · intro fa fw hfB hfN hfE hfk hft
        have k59 : fa.eval (.tmp 59) = (.slice (some ⟨g, off, none⟩) ws.length cap) := by have := hfk 6 (K3.mem_needs (by kernel_rfl)) _ rfl; rw [hRs] at this; exact this
        rw [hRs]
        refine K3.hop_plain rfl ?_
        have kc : ∀ v, fa.eval (.const v) = v := fun _ => rfl
        generalize fa.eval = ρ at *
        exact K3.out_run (v := .pointer (some ⟨g, off, none⟩)) (w' := fw) (by simp [execOp, k59, kc, List.ne_nil_of_length_pos hlen0, go_sem]) ⟨rfl, Below.refl _ _⟩
      refine K3.rel_cons (Φ := K3.Hop _ _ _ _ _ _ _) (k := 8) ?_ ?_
      · intro fa fw hfB hfN hfE hfk hft
        have hE : Below w10.drew.heap.size w10.drew fw := hfE (by kernel_rfl)
        have k60 : fa.eval (.tmp 60) = (.pointer (some ⟨g, off, none⟩)) := by have := hfk 7 (K3.mem_needs (by kernel_rfl)) _ rfl; rw [hRs] at this; exact this
        rw [hRs]
        refine K3.hop_plain rfl ?_
        have hbx := (hE.cell (p := ⟨g, off, none⟩) (Nat.lt_of_lt_of_le hgy hd4.size)).trans (show w10.drew.cell? ⟨g, off, none⟩ = _ from hcy)
        exact out_load3 rfl k60 (by simp [go_sem, hbx]) ⟨rfl, Below.refl _ _⟩
      refine K3.rel_cons (Φ := K3.Hop _ _ _ _ _ _ _) (k := 9) ?_ ?_
      · intro fa fw hfB hfN hfE hfk hft
        have k6 : fa.eval (.tmp 6) = .slice (some ⟨g2, off2, none⟩) Y.length c2 := hft 6 (K3.mem_looks (by kernel_rfl)) (K3.noneed (by kernel_rfl))
        rw [hRs]
        refine K3.hop_plain rfl ?_
        refine K3.out_move rfl ?_
        exact ⟨k6, Below.refl _ _⟩
      refine K3.rel_cons (Φ := K3.Hop _ _ _ _ _ _ _) (k := 10) ?_ ?_
      · intro fa fw hfB hfN hfE hfk hft
        have k62 : fa.eval (.tmp 62) = (.slice (some ⟨g2, off2, none⟩) Y.length c2) := by have := hfk 9 (K3.mem_needs (by kernel_rfl)) _ rfl; rw [hRs] at this; exact this
        rw [hRs]
        refine K3.hop_plain rfl ?_
        have kc : ∀ v, fa.eval (.const v) = v := fun _ => rfl
        generalize fa.eval = ρ at *
        exact K3.out_run (v := .pointer (some ⟨g2, off2, none⟩)) (w' := fw) (by simp [execOp, k62, kc, List.ne_nil_of_length_pos hY0, go_sem]) ⟨rfl, Below.refl _ _⟩
      refine K3.rel_cons (Φ := K3.Hop _ _ _ _ _ _ _) (k := 11) ?_ ?_
      · intro fa fw hfB hfN hfE hfk hft
        have hE : Below w10.drew.heap.size w10.drew fw := hfE (by kernel_rfl)
        have k63 : fa.eval (.tmp 63) = (.pointer (some ⟨g2, off2, none⟩)) := by have := hfk 10 (K3.mem_needs (by kernel_rfl)) _ rfl; rw [hRs] at this; exact this
        rw [hRs]
        refine K3.hop_plain rfl ?_
        have hbx := (hE.cell (p := ⟨g2, off2, none⟩) (Nat.lt_of_lt_of_le hgz hd4.size)).trans (show w10.drew.cell? ⟨g2, off2, none⟩ = _ from hcz)
        exact out_load3 rfl k63 (by simp [go_sem, hbx]) ⟨rfl, Below.refl _ _⟩
      refine K3.rel_cons (Φ := K3.Hop _ _ _ _ _ _ _) (k := 12) ?_ ?_
      · intro fa fw hfB hfN hfE hfk hft
        have k61 : fa.eval (.tmp 61) = (.string y) := by have := hfk 8 (K3.mem_needs (by kernel_rfl)) _ rfl; rw [hRs] at this; exact this
        have k64 : fa.eval (.tmp 64) = (.string z) := by have := hfk 11 (K3.mem_needs (by kernel_rfl)) _ rfl; rw [hRs] at this; exact this
        rw [hRs]
        refine K3.hop_plain rfl ?_
        exact out_build3 rfl (by simp only [List.map_toArray, List.map_cons, List.map_nil, k61, k64]) (build_rp fw y z) ⟨rfl, Below.refl _ _⟩
      refine K3.rel_cons (Φ := K3.Hop _ _ _ _ _ _ _) (k := 13) ?_ ?_
      · intro fa fw hfB hfN hfE hfk hft
        have k65 : fa.eval (.tmp 65) = (.agg (rpV (y, z)).toArray) := by have := hfk 12 (K3.mem_needs (by kernel_rfl)) _ rfl; rw [hRs] at this; exact this
        rw [hRs]
        refine K3.hop_plain rfl ?_
        exact out_buildSlice3 rfl (by simp only [List.map_toArray, List.map_cons, List.map_nil, k65]) (slice_rp fw (y, z)) ⟨⟨_, rfl, heap_alloc_new _ _⟩, (Below.refl _ _).alloc (Nat.le_refl _) _⟩
      refine K3.rel_cons (Φ := K3.Hop _ _ _ _ _ _ _) (k := 14) ?_ ?_
      · intro fa fw hfB hfN hfE hfk hft
        have k58 : (RBE b L hl R R.reps (.slice pt R.reps.length ct)) (fa.eval (.tmp 58)) fw := by have := hfk 5 (K3.mem_needs (by kernel_rfl)) _ rfl; rw [hRs] at this; exact this
        have k66 : (K3.NewB 1 (rpV (y, z)).toArray 34) (fa.eval (.tmp 66)) fw := by have := hfk 13 (K3.mem_needs (by kernel_rfl)) _ rfl; rw [hRs] at this; exact this
        rw [hRs]
        refine K3.hop_plain rfl ?_
        obtain ⟨hv0, hb0⟩ := k58
        obtain ⟨B1, hb1, hb2⟩ := k66
        obtain ⟨u1, q1, q2, q3⟩ := hb0.f
        obtain ⟨v', w', hr, ho, hg, ha⟩ := run_append_gen2 eltR fw (b + 1) _ _ _ _ [(y, z)] q2 (LAt.block rfl rfl hb2) (by simp only [List.length_cons, List.length_nil]; omega) (by unfold maxLen; simp only [List.length_cons, List.length_nil]; omega) (by have := lt_of_block q1; omega)
        obtain ⟨z1, z2⟩ := hb0.grow ho hg ha
        exact out_append_k3 (.tmp 58) (.tmp 66) 25 rfl hv0 hb1 hr ⟨z1, z2⟩
      refine K3.rel_cons (Φ := K3.Hop _ _ _ _ _ _ _) (k := 15) ?_ ?_
      · intro fa fw hfB hfN hfE hfk hft
        have k53 : fa.eval (.tmp 53) = (.pointer (some ⟨b, 0, none⟩)) := by have := hfk 0 (K3.mem_needs (by kernel_rfl)) _ rfl; rw [hRs] at this; exact this
        rw [hRs]
        refine K3.hop_plain rfl ?_
        generalize fa.eval = ρ at *
        exact K3.out_run (v := .pointer (some ⟨b, 0, none⟩)) (w' := fw) (by simp [execOp, k53, go_sem]) ⟨rfl, Below.refl _ _⟩
      refine K3.rel_cons (Φ := K3.Hop _ _ _ _ _ _ _) (k := 16) ?_ ?_
      · intro fa fw hfB hfN hfE hfk hft
        have k68 : fa.eval (.tmp 68) = (.pointer (some ⟨b, 0, none⟩)) := by have := hfk 15 (K3.mem_needs (by kernel_rfl)) _ rfl; rw [hRs] at this; exact this
        rw [hRs]
        refine K3.hop_plain rfl ?_
        generalize fa.eval = ρ at *
        exact K3.out_run (v := .pointer (some ⟨b, 0, none⟩)) (w' := fw) (by simp [execOp, k68, go_sem]) ⟨rfl, Below.refl _ _⟩
      refine K3.rel_cons (Φ := K3.Hop _ _ _ _ _ _ _) (k := 17) ?_ ?_
      · intro fa fw hfB hfN hfE hfk hft
        have k69 : fa.eval (.tmp 69) = (.pointer (some ⟨b, 0, none⟩)) := by have := hfk 16 (K3.mem_needs (by kernel_rfl)) _ rfl; rw [hRs] at this; exact this
        rw [hRs]
        refine K3.hop_plain rfl ?_
        generalize fa.eval = ρ at *
        exact K3.out_run (v := .pointer (some ⟨b, 2, none⟩)) (w' := fw) (by simp [execOp, k69, go_sem]) ⟨rfl, Below.refl _ _⟩
      refine K3.rel_cons (Φ := K3.Hop _ _ _ _ _ _ _) (k := 18) ?_ ?_
      · intro fa fw hfB hfN hfE hfk hft
        have k70 : fa.eval (.tmp 70) = (.pointer (some ⟨b, 2, none⟩)) := by have := hfk 17 (K3.mem_needs (by kernel_rfl)) _ rfl; rw [hRs] at this; exact this
        have k67 : (RB b L hl R (R.reps ++ [(y, z)])) (fa.eval (.tmp 67)) fw := by have := hfk 14 (K3.mem_needs (by kernel_rfl)) _ rfl; rw [hRs] at this; exact this
        rw [hRs]
        refine K3.hop_plain rfl ?_
        obtain ⟨u1, q1, q2, q3⟩ := k67.f
        obtain ⟨p6, c6, hv6⟩ := own_sliceR q2
        have hst := k67.store
        rw [hv6] at hst
        exact out_store25 rfl k70 (show fa.eval (.tmp 67) = _ from hv6) q1 (by simp [mrA]) ⟨⟨hst.1, hst.2⟩, (Below.refl b fw).setCell (p := ⟨b, 2, none⟩) (Nat.le_refl b) _⟩
      exact K3.rel_nil
    · intro fa fw hfB hfy hff hfs hfd
      rw [hRs] at hfy
      have k70 : RF_ b L hl { R with reps := R.reps ++ [(y, z)] } (fa.tmps.getD 70 undef) fw := hfy 18 _ rfl (K3.unkilled (by decide))
      have hBf : Below b w10 fw := (hd4.mono (by omega)).trans hfB
      have e := K3.rel_frame [53, 54, 55, 56, 57, 58, 59, 60, 61, 62, 63, 64, 65, 66, 67, 68, 69, 70] (by kernel_rfl) hff hfs hfd
      simp only [List.foldl] at e
      clear hfy hff hfs hfd 
      generalize fa.tmps.getD 53 undef = x53 at e
      generalize fa.tmps.getD 54 undef = x54 at e
      generalize fa.tmps.getD 55 undef = x55 at e
      generalize fa.tmps.getD 56 undef = x56 at e
      generalize fa.tmps.getD 57 undef = x57 at e
      generalize fa.tmps.getD 58 undef = x58 at e
      generalize fa.tmps.getD 59 undef = x59 at e
      generalize fa.tmps.getD 60 undef = x60 at e
      generalize fa.tmps.getD 61 undef = x61 at e
      generalize fa.tmps.getD 62 undef = x62 at e
      generalize fa.tmps.getD 63 undef = x63 at e
      generalize fa.tmps.getD 64 undef = x64 at e
      generalize fa.tmps.getD 65 undef = x65 at e
      generalize fa.tmps.getD 66 undef = x66 at e
      generalize fa.tmps.getD 67 undef = x67 at e
      generalize fa.tmps.getD 68 undef = x68 at e
      generalize fa.tmps.getD 69 undef = x69 at e
      generalize fa.tmps.getD 70 undef = x70 at e k70
      simp [List.setIfInBounds_toArray, List.set_cons_succ, List.set_cons_zero] at e
      subst e
      have H12 := Lib.hid k70.f
      have HB12 := Lib.hid (HB10.out.trans ⟨hBf, k70.at_.trans hhl.symm⟩)
      clear k70 hBf
      go_wp2_with fail
      go_ret
      rw [HS.out]
      exact ⟨rfl, H12.out, HB12.out⟩
end Go.Proofs.YtkmachhfibcdlaaDoor
