/- Walks: what a go.mod says. -/
import Derived.Test.YtkmachhfibcdlaaDoorCf
import Derived.Lib.IndexMore
namespace Go.Proofs.YtkmachhfibcdlaaDoor
set_option linter.unusedVariables false
set_option linter.unusedSimpArgs false
open Go.ChangeShapes Go.WideShapes Go.ChangeAt Go.RowKit

/-- What a go.mod says. -/
structure MD where
  path : ByteArray
  lvl : Int
  reps : List Rp
  fault : Nat
def R0 : MR := ⟨⟨#[]⟩, 0, [], false, ⟨#[]⟩⟩
/-- What stands ahead of a note; its words. -/
def noteB (l : ByteArray) : ByteArray := ⟨(Lib.cut l.data.toList (⟨#[47, 47]⟩ : ByteArray).data.toList).1.toArray⟩
def wordsL (l : ByteArray) : List ByteArray := wordsB (noteB l)
theorem noteB_size (l : ByteArray) : (noteB l).size ≤ l.size := by
  show (Lib.cut _ _).1.toArray.size ≤ _
  unfold Lib.cut
  rw [List.size_toArray]
  split
  · show (List.take _ _).length ≤ _
    rw [List.length_take, ba_len]; omega
  · show l.data.toList.length ≤ _
    rw [ba_len]; omega
theorem mem_sums : ∀ (l : List ByteArray), ∀ x ∈ l, x.size ≤ sums l
  | [], x, h => by cases h
  | a :: l, x, h => by
    rcases List.mem_cons.1 h with rfl | h
    · show x.size ≤ x.size + sums l; omega
    · have := mem_sums l x h; show x.size ≤ a.size + sums l; omega
theorem wordsL_size (l : ByteArray) : ∀ x ∈ wordsL l, x.size ≤ l.size := fun x hx => by
  have h1 := mem_sums _ x hx
  have h2 := (sums_words (noteB l)).1
  have h3 := noteB_size l
  unfold wordsL at h1
  omega
def goM (R : MR) (i : Nat) : List ByteArray → Nat × MR
  | [] => (0, R)
  | l :: ls => if wordsL l = [] then goM R (i + 1) ls else if (lineR R (wordsL l)).1 = true then goM (lineR R (wordsL l)).2 (i + 1) ls else (i + 1, R)
def endM (n : Nat) (r : Nat × MR) : MD :=
  if r.1 ≠ 0 then ⟨⟨#[]⟩, 0, [], r.1⟩ else if r.2.blk ≠ ⟨#[]⟩ ∨ r.2.path = ⟨#[]⟩ then ⟨⟨#[]⟩, 0, [], n⟩ else ⟨r.2.path, r.2.lvl, r.2.reps, 0⟩
def modX (X : List ByteArray) : MD := endM X.length (goM R0 0 X)
def modM (s : ByteArray) : MD := modX (cutB 10 s)
theorem lineR_reps (R : MR) (ws : List ByteArray) : (lineR R ws).2.reps.length ≤ R.reps.length + 1 := by
  have h1 : ∀ R ws, (moduleR R ws).2.reps = R.reps := fun R ws => by unfold moduleR; split <;> rfl
  have h2 : ∀ R ws, (releaseR R ws).2.reps = R.reps := fun R ws => by
    unfold releaseR; split
    · split <;> rfl
    · rfl
  have h3 : ∀ R ws, (replaceR R ws).2.reps.length ≤ R.reps.length + 1 := fun R ws => by
    unfold replaceR replY
    repeat' split
    all_goals first | omega | (simp only [List.length_append, List.length_singleton]; omega)
  have h4 : ∀ R v ws, (verbR R v ws).2.reps.length ≤ R.reps.length + 1 := fun R v ws => by
    unfold verbR verbS
    repeat' split
    all_goals first | (rw [h1]; omega) | (rw [h2]; omega) | exact h3 _ _ | (show R.reps.length ≤ _; omega)
  unfold lineR
  repeat' split
  all_goals first | exact h4 _ _ _ | (show R.reps.length ≤ _; omega)
/-- What was read, as a value. -/
def MAt (M : MD) (v : Value) (w : World) : Prop := ∃ rv, v = .agg #[.string M.path, .int .i64 M.lvl, rv, .int .i64 (M.fault : Nat)] ∧ LAt 2 rpV w rv M.reps
theorem MAt.below {M : MD} {v : Value} {w w' : World} (h : MAt M v w) (hB : Below w.heap.size w w') : MAt M v w' := by
  obtain ⟨rv, h1, h2⟩ := h
  exact ⟨rv, h1, h2.below hB⟩
theorem set4r (w : World) (g : Nat) (a b c d x y z u : Value) (t : TypeId) (fr : Nat × Nat) (hg : w.heap[g]? = some (.cells #[a, b, c, d] t fr)) :
    (((w.setCell ⟨g, 0, none⟩ x).setCell ⟨g, 1, none⟩ y).setCell ⟨g, 2, none⟩ z).setCell ⟨g, 3, none⟩ u = w.setRow g #[x, y, z, u] := by
  rw [setCell_eq_setRow w g 0 _ t fr x hg, setCell_eq_setRow _ g 1 _ t fr y (setRow_heap _ _ _ _ _ _ hg), setRow_setRow,
    setCell_eq_setRow _ g 2 _ t fr z (setRow_heap _ _ _ _ _ _ hg), setRow_setRow, setCell_eq_setRow _ g 3 _ t fr u (setRow_heap _ _ _ _ _ _ hg), setRow_setRow]
  rfl
theorem size27 : (Tryd.prog.info? 27).map (·.size) = some 4 := by as_aux_lemma => kernel_rfl
theorem ret8 {R : Ending → World → Prop} {a : Act} (w : World) (g : Nat) (p q r s x y z u : Value) (hg : w.heap[g]? = some (.cells #[p, q, r, s] 27 (0, 0)))
    (hp : a.tmps.getD 2 undef = .pointer (some ⟨g, 0, none⟩)) (hd : a.defers = []) (hR : R (.returned (.agg #[x, y, z, u])) (w.setRow g #[x, y, z, u])) :
    bodyPost Tryd.prog Tryd.f8 R .ret a ((((w.setCell ⟨g, 0, none⟩ x).setCell ⟨g, 1, none⟩ y).setCell ⟨g, 2, none⟩ z).setCell ⟨g, 3, none⟩ u) := by
  rw [set4r w g _ _ _ _ x y z u _ _ hg]
  exact bodyPost_ret (results_cell_row (fr := (0, 0)) rfl _ _ g 27 _ _ hp (show (w.setRow g #[x, y, z, u]).heap[g]? = _ from setRow_heap _ _ _ _ _ _ hg) Tryd.underlying27 rfl size27) hd hR
theorem below_row4 {B g : Nat} {w0 w : World} {p q r s : Value} {t : TypeId} (hb : Below B w0 w) (hg : w.heap[g]? = some (.cells #[p, q, r, s] t (0, 0))) (h : B ≤ g) (x y z u : Value) : Below B w0 (w.setRow g #[x, y, z, u]) := by
  rw [← set4r w g _ _ _ _ x y z u _ _ hg]
  exact (((Below.setCell hb (p := ⟨g, 0, none⟩) h _).setCell (p := ⟨g, 1, none⟩) h _).setCell (p := ⟨g, 2, none⟩) h _).setCell (p := ⟨g, 3, none⟩) h _
theorem Kept.cell {b L : Nat} {w w' : World} (h : Kept b L w w') (i : Nat) : w'.cell? ⟨L, i, none⟩ = w.cell? ⟨L, i, none⟩ := by
  simp only [World.cell?, h.at_]
theorem goM_out {R : MR} {i : Nat} : goM R i [] = (0, R) := rfl
theorem goM_dull {R : MR} {i : Nat} {l : ByteArray} {ls : List ByteArray} (h : wordsL l = []) : goM R i (l :: ls) = goM R (i + 1) ls := by
  rw [goM, if_pos h]
theorem goM_on {R : MR} {i : Nat} {l : ByteArray} {ls : List ByteArray} (h : wordsL l ≠ []) (h2 : (lineR R (wordsL l)).1 = true) : goM R i (l :: ls) = goM (lineR R (wordsL l)).2 (i + 1) ls := by
  rw [goM, if_neg h, if_pos h2]
theorem goM_bad {R : MR} {i : Nat} {l : ByteArray} {ls : List ByteArray} (h : wordsL l ≠ []) (h2 : (lineR R (wordsL l)).1 = false) : goM R i (l :: ls) = (i + 1, R) := by
  rw [goM, if_neg h, if_neg (by rw [h2]; exact Bool.noConfusion)]
theorem own_setRow {w : World} {base g : Nat} {e : TypeId} {n m : Nat} {v : Value} {xs : List Value} {cs : Array Value} (h : w.ownsRow base e n v m xs) (hg : g < base) : (w.setRow g cs).ownsRow base e n v m xs := by
  refine ⟨h.1, ?_⟩
  rcases h.2 with h | ⟨k, cap, cur, hv, hk, hh, rest⟩
  · exact .inl h
  · exact .inr ⟨k, cap, cur, hv, hk, (setRow_other w g k cs (by omega)).trans hh, rest⟩
theorem lat_nil (w : World) : LAt 2 rpV w (.slice none 0 0) ([] : List Rp) := ⟨by simp, Or.inl ⟨none, 0, rfl, rfl⟩⟩
set_option maxRecDepth 100000 in
set_option maxHeartbeats 8000000 in
theorem parse_big (s : ByteArray) (w : World) (hE : Env w) (hs : s.size ≤ 4194304) (hL : ∀ l ∈ cutB 10 s, l.size ≤ 1048576) :
    Calls Tryd.prog 8 #[.string s] w fun e w' => ∃ v, e = .returned v ∧ MAt (modM s) v w' ∧ Below w.heap.size w w' := by
  have HM := Lib.hid (show modM s = modX (cutB 10 s) from rfl)
  have HX := Lib.hid (show ∀ (k : Nat) (h : k < (cutB 10 s).length), (cutB 10 s)[k].size ≤ 1048576 from fun k h => hL _ (List.getElem_mem h))
  clear hL
  have hX0 := cutB_ne 10 s
  have hXm : (cutB 10 s).length ≤ 4194305 := by have := cutB_cnt 10 s; have := cnt_len (cutB 10 s); omega
  have HSp := Lib.hid (fun w1 (hB : Below w.heap.size w w1) => split_own 10 s w1 (by omega) (hE.below hB).max)
  have HE := Lib.hid hE
  clear hE
  generalize cutB 10 s = X at *
  go_enter Tryd.func8, Tryd.ntmps8
  go_upto_region 2 with fail
  have hn1 := heap_alloc_new w (.cells #[.string ⟨#[]⟩, .int .i64 0, .slice none 0 0, .int .i64 0] 27)
  have hB1 := (Below.refl w.heap.size w).alloc (Nat.le_refl _) (.cells #[.string ⟨#[]⟩, .int .i64 0, .slice none 0 0, .int .i64 0] 27)
  have hz1 : (w.alloc (.cells #[.string ⟨#[]⟩, .int .i64 0, .slice none 0 0, .int .i64 0] 27)).heap.size = w.heap.size + 1 := by
    show (w.heap.push _).size = _
    rw [Array.size_push]
  generalize w.alloc (.cells #[.string ⟨#[]⟩, .int .i64 0, .slice none 0 0, .int .i64 0] 27) = w1 at *
  have hn2 := heap_alloc_new w1 (.cells #[.string ⟨#[]⟩, .int .i64 0, .slice none 0 0, .int .i64 0, .bool false, .string ⟨#[]⟩] 39)
  have hB2 := (Below.refl w1.heap.size w1).alloc (Nat.le_refl _) (.cells #[.string ⟨#[]⟩, .int .i64 0, .slice none 0 0, .int .i64 0, .bool false, .string ⟨#[]⟩] 39)
  generalize w1.alloc (.cells #[.string ⟨#[]⟩, .int .i64 0, .slice none 0 0, .int .i64 0, .bool false, .string ⟨#[]⟩] 39) = w2 at *
  rw [← hz1]
  have Hf2 := Lib.hid ((hB2.block w.heap.size (lt_of_block hn1)).trans hn1)
  have HB2 := Lib.hid (hB1.trans (hB2.mono (by omega)))
  have hfb : w.heap.size < w1.heap.size := by omega
  have Hn2 := Lib.hid hn2
  clear hn1 hB1 hB2 hn2 hz1
  generalize hbb : w1.heap.size = b at *
  generalize hff : w.heap.size = f0 at *
  go_wp2_with fail
  refine (HSp.out _ HB2.out).mono ?_
  rintro r w3 ⟨v, rfl, hown, hB⟩
  have hSt : Strs w3 v X := Strs.ofRow hown
  have hbl2 := lt_of_block Hn2.out
  obtain ⟨L, cv, rfl, hLb⟩ : ∃ L cv, v = .slice (some ⟨L, 0, none⟩) X.length cv ∧ w2.heap.size ≤ L := by
    rcases hown.2 with ⟨h1, h2⟩ | ⟨g, cap, cur, hv, hb, _⟩
    · exact absurd h2 (by omega)
    · exact ⟨g, cap, hv, hb⟩
  obtain ⟨_, hq⟩ := hSt.cells
  obtain ⟨_, _, L', o', hLe, hLs, hcell⟩ := hq hX0
  simp only [Option.some.injEq, Addr.mk.injEq] at hLe
  obtain ⟨rfl, rfl, _⟩ := hLe
  have HC := Lib.hid (show ∀ i (h : i < X.length), w3.cell? ⟨L, i, none⟩ = some (.string X[i]) from fun i h => by have := hcell i h; rwa [Nat.zero_add] at this)
  have HR := Lib.hid (show RdM b L R0 w3 from ⟨⟨.slice none 0 0, (hB.block b hbl2).trans Hn2.out, World.ownsRow_nil _ _ _ _, by simp [Value.ownBlock]⟩, by omega, hLs⟩)
  have HB3 := Lib.hid (HB2.out.trans (hB.mono (by omega)))
  have Hf3 := Lib.hid ((hB.block f0 (by omega)).trans Hf2.out)
  clear hB hown hSt hq hcell HSp Hn2 Hf2 HB2 hbl2
  go_wp2_with fail
  go_loopg [5, 6, 7, 8, 9, 10, 17] X.length (fun g _ _ _ _ _ _ iv wr => ∃ (i : Nat) (R : MR), i + g = X.length ∧ iv = .int .i64 i ∧ R.reps.length ≤ i ∧ Hid (RdM b L R wr ∧ Kept b L w3 wr ∧ goM R0 0 X = goM R i (X.drop i)))
  case atStart => exact ⟨0, R0, by omega, rfl, Nat.le_refl _, Lib.hid ⟨HR.out, Kept.refl _ _ _, by rw [List.drop_zero]⟩⟩
  case round =>
    obtain ⟨i, R, hig, rfl, hRl, HI⟩ := hrel
    have H1 := Lib.hid HI.out.1
    have HK1 := Lib.hid HI.out.2.1
    have HG := Lib.hid HI.out.2.2
    clear HI
    have hbw := H1.out.bl
    have HBw := Lib.hid (HB3.out.trans (HK1.out.lo.mono (by omega)))
    have Hf := Lib.hid ((HK1.out.lo.block f0 (by omega)).trans Hf3.out)
    by_cases hi : i < X.length
    case neg =>
      have hiI : ¬ (i : Int) < (X.length : Int) := by omega
      have HG2 := Lib.hid (show modM s = endM X.length (0, R) by rw [HM.out]; unfold modX; rw [HG.out, List.drop_eq_nil_of_le (by omega)]; rfl)
      obtain ⟨rv, hb1, ho1, hL1⟩ := H1.out.f
      have d5 := block_cell hb1 5
      rw [show (mrA R.path R.lvl rv R.lev R.blk)[5]? = some (.string R.blk) from rfl] at d5
      have d0 := block_cell hb1 0
      rw [show (mrA R.path R.lvl rv R.lev R.blk)[0]? = some (.string R.path) from rfl] at d0
      have d1 := block_cell hb1 1
      rw [show (mrA R.path R.lvl rv R.lev R.blk)[1]? = some (.int .i64 R.lvl) from rfl] at d1
      have d2 := block_cell hb1 2
      rw [show (mrA R.path R.lvl rv R.lev R.blk)[2]? = some rv from rfl] at d2
      have d3 := block_cell hb1 3
      rw [show (mrA R.path R.lvl rv R.lev R.blk)[3]? = some (.int .i64 0) from rfl] at d3
      have g0 := block_cell Hf.out 0
      have g1 := block_cell Hf.out 1
      have g2 := block_cell Hf.out 2
      have g3 := block_cell Hf.out 3
      have r0 := block_free Hf.out 0
      have r1 := block_free Hf.out 1
      have r2 := block_free Hf.out 2
      have r3 := block_free Hf.out 3
      obtain ⟨pt, ct, rfl⟩ := own_sliceR ho1
      have HLR := Lib.hid ho1
      have k5 := str_lit R.blk #[]
      have k6 := str_lit R.path #[]
      clear hb1 ho1 hL1
      by_cases hk5 : R.blk = ⟨#[]⟩
      case neg =>
        rw [decide_eq_false hk5] at k5
        have k5n := ne_of_eqb k5
        have HG3 := Lib.hid (show modM s = ⟨⟨#[]⟩, 0, [], X.length⟩ by rw [HG2.out]; unfold endM; rw [if_neg (by simp), if_pos (.inl hk5)])
        clear hk5
        go_wp2_with fail
        refine ret8 wr f0 _ _ _ _ _ _ _ _ Hf.out ?_ ?_ ?_
        · rfl
        · rfl
        refine ⟨_, rfl, ?_, ?_⟩
        · rw [HG3.out]
          exact ⟨.slice none 0 0, rfl, lat_nil _⟩
        · try rw [hff]
          exact below_row4 HBw.out Hf.out (Nat.le_refl _) _ _ _ _
      rw [decide_eq_true hk5] at k5
      have k5n := ne_of_eqb k5
      by_cases hk6 : R.path = ⟨#[]⟩
      · rw [decide_eq_true hk6] at k6
        have HG3 := Lib.hid (show modM s = ⟨⟨#[]⟩, 0, [], X.length⟩ by rw [HG2.out]; unfold endM; rw [if_neg (by simp), if_pos (.inr hk6)])
        clear hk6 hk5
        go_wp2_with fail
        refine ret8 wr f0 _ _ _ _ _ _ _ _ Hf.out ?_ ?_ ?_
        · rfl
        · rfl
        refine ⟨_, rfl, ?_, ?_⟩
        · rw [HG3.out]
          exact ⟨.slice none 0 0, rfl, lat_nil _⟩
        · try rw [hff]
          exact below_row4 HBw.out Hf.out (Nat.le_refl _) _ _ _ _
      rw [decide_eq_false hk6] at k6
      have HG3 := Lib.hid (show modM s = ⟨R.path, R.lvl, R.reps, 0⟩ by rw [HG2.out]; unfold endM; rw [if_neg (by simp), if_neg (by rintro (h | h); exact h hk5; exact hk6 h)])
      clear hk6 hk5
      go_wp2_with fail
      refine ret8 wr f0 _ _ _ _ _ _ _ _ Hf.out ?_ ?_ ?_
      · rfl
      · rfl
      refine ⟨_, rfl, ?_, ?_⟩
      · rw [HG3.out]
        refine ⟨_, rfl, ?_⟩
        exact LAt.own (fun x _ => rpV_len x) (own_setRow HLR.out (by omega))
      · try rw [hff]
        exact below_row4 HBw.out Hf.out (Nat.le_refl _) _ _ _ _
    have hiI : (i : Int) < (X.length : Int) := by omega
    have hc := (HK1.out.cell i).trans (HC.out i hi)
    have hls := HX.out i hi
    have HD := Lib.hid (show X.drop i = X[i] :: X.drop (i + 1) from (List.getElem_cons_drop (h := hi)).symm)
    have hLw := H1.out.lt
    generalize X[i] = l at *
    obtain ⟨mx, hmx⟩ := (HE.out.below (hff ▸ HBw.out)).max.2
    have HCt := Lib.hid (Tryd.strings_Cut l ⟨#[47, 47]⟩ mx wr (by omega) hmx)
    clear hmx
    rw [show (⟨(Lib.cut l.data.toList (⟨#[47, 47]⟩ : ByteArray).data.toList).1.toArray⟩ : ByteArray) = noteB l from rfl] at HCt
    generalize (Lib.cut l.data.toList (⟨#[47, 47]⟩ : ByteArray).data.toList).2.1.toArray = y1 at HCt
    generalize (Lib.cut l.data.toList (⟨#[47, 47]⟩ : ByteArray).data.toList).2.2 = y2 at HCt
    have hnz := noteB_size l
    have HF := Lib.hid (fun w1 => fields_any (noteB l) w1 (by omega))
    have HW : Hid (∀ x ∈ wordsL l, x.size ≤ 1048576) := Lib.hid (fun x hx => by have := wordsL_size l x hx; omega)
    rw [show wordsB (noteB l) = wordsL l from rfl] at HF
    generalize noteB l = nl at *
    go_wp2_with fail
    refine HCt.out.mono ?_
    rintro r w4 ⟨rfl, q, rfl⟩
    have hBq := below_drewN (Below.refl wr.heap.size wr) q
    have H4 := Lib.hid (H1.out.below hBq)
    have HK4 := Lib.hid (HK1.out.trans (H1.out.of hBq))
    have HBq := Lib.hid hBq
    clear hBq hc H1 HK1 HCt
    generalize wr.drewN q = w4 at *
    go_wp2_with fail
    refine (HF.out _).mono ?_
    rintro r w5 ⟨v5, rfl, hown, hB⟩
    have HS5 := Lib.hid (Strs.ofRow hown)
    obtain ⟨p5, c5, rfl⟩ := own_sliceS hown
    have H5 := Lib.hid (H4.out.below hB)
    have HK5 := Lib.hid (HK4.out.trans (H4.out.of hB))
    have HE5 := Lib.hid (HE.out.below (hff ▸ HB3.out.trans (HK5.out.lo.mono (by omega))))
    clear hB hown H4 HK4 HF
    by_cases hw : wordsL l = []
    · have hw0 : ¬ (0 : Int) < ((wordsL l).length : Int) := by rw [hw]; decide
      have HG2 := Lib.hid (show goM R0 0 X = goM R (i + 1) (X.drop (i + 1)) by rw [HG.out, HD.out, goM_dull hw])
      clear hw
      generalize wordsL l = W at *
      go_wp2_with fail
      go_roundg (gk - 1)
      case measure => omega
      case rel => exact ⟨i + 1, R, by omega, by go_num, by omega, Lib.hid ⟨H5.out, HK5.out, HG2.out⟩⟩
    have hw0 : (0 : Int) < ((wordsL l).length : Int) := by
      have : 0 < (wordsL l).length := List.length_pos_iff.2 hw
      omega
    have HLn := Lib.hid (line_any b L R p5 _ c5 (wordsL l) w5 HE5.out H5.out HS5.out (List.length_pos_iff.2 hw) HW.out (by omega))
    obtain ⟨ok, R2, hr⟩ : ∃ ok R2, lineR R (wordsL l) = (ok, R2) := ⟨_, _, rfl⟩
    have hrl := lineR_reps R (wordsL l)
    rw [hr] at HLn hrl
    have HG2 := Lib.hid (show goM R0 0 X = if ok = true then goM R2 (i + 1) (X.drop (i + 1)) else (i + 1, R) by
      rw [HG.out, HD.out]
      cases ok with
      | true => rw [if_pos rfl, goM_on hw (by rw [hr]), hr]
      | false => rw [if_neg Bool.noConfusion, goM_bad hw (by rw [hr])])
    dsimp only at HLn hrl
    clear hw hr HS5 HD HW
    generalize wordsL l = W at *
    go_wp2_with fail
    refine HLn.out.mono ?_
    rintro r w6 ⟨rfl, h6, hk6⟩
    have H6 := Lib.hid h6
    have HK6 := Lib.hid (HK5.out.trans hk6)
    clear h6 hk6 HLn H5 HK5
    cases ok with
    | true =>
      go_wp2_with fail
      go_roundg (gk - 1)
      case measure => omega
      case rel => exact ⟨i + 1, R2, by omega, by go_num, by omega, Lib.hid ⟨H6.out, HK6.out, HG2.out⟩⟩
    | false =>
      have HG3 := Lib.hid (show modM s = ⟨⟨#[]⟩, 0, [], i + 1⟩ by rw [HM.out]; unfold modX; rw [HG2.out, if_neg Bool.noConfusion]; unfold endM; rw [if_pos (by simp)])
      have hf6 := (HK6.out.lo.block f0 (by omega)).trans Hf3.out
      have Hf6 := Lib.hid hf6
      have g0 := block_cell hf6 0
      have g1 := block_cell hf6 1
      have g2 := block_cell hf6 2
      have g3 := block_cell hf6 3
      have r0 := block_free hf6 0
      have r1 := block_free hf6 1
      have r2 := block_free hf6 2
      have r3 := block_free hf6 3
      clear hf6
      go_wp2_with fail
      refine ret8 w6 f0 _ _ _ _ _ _ _ _ Hf6.out ?_ ?_ ?_
      · rfl
      · rfl
      refine ⟨_, rfl, ?_, ?_⟩
      · rw [HG3.out]
        exact ⟨.slice none 0 0, by simp, lat_nil _⟩
      · try rw [hff]
        exact below_row4 (HB3.out.trans (HK6.out.lo.mono (by omega))) Hf6.out (Nat.le_refl _) _ _ _ _
theorem parse_any (s : ByteArray) (w : World) (hE : Env w) (hs : s.size ≤ 1048576) :
    Calls Tryd.prog 8 #[.string s] w fun e w' => ∃ v, e = .returned v ∧ MAt (modM s) v w' ∧ Below w.heap.size w w' :=
  parse_big s w hE (by omega) (fun l hl => by
    obtain ⟨k, hk, rfl⟩ := List.mem_iff_getElem.1 hl
    have := cutB_le 10 s k hk
    omega)
end Go.Proofs.YtkmachhfibcdlaaDoor
