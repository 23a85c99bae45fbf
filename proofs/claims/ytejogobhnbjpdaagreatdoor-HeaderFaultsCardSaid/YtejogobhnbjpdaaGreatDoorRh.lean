/- Walks: what stands at a place, by the document. -/
import Derived.Test.YtejogobhnbjpdaaGreatDoorRf
import Derived.Test.YtejogobhnbjpdaaGreatDoorRg
import Derived.Test.YtejogobhnbjpdaaGreatDoorRb
namespace Go.Proofs.YtejogobhnbjpdaaGreatDoor
set_option linter.unusedVariables false
set_option linter.unusedSimpArgs false
open Go.ChangeShapes Go.WideShapes Go.ChangeAt Go.RowKit

theorem blkR_pos {r : Int} (h : blkR r = true) : 0 ≤ r := by have := of_decide_eq_true h; omega
theorem sign_neg {s : ByteArray} {q : Nat} (hq : q < s.size) (h : (runeAt s q).1 < 0) : signN s q = 0 := by
  have no : ∀ k, 0 < k → ¬ sgB s q k := fun k hk hs => by
    have hb := sg_byte hs (i := 0) hk
    rw [Nat.add_zero] at hb
    rw [rune_low hq rfl (by omega) (by omega)] at h
    have : ((byt s q : Nat) : Int) < 0 := h
    omega
  rcases signN_eq s q with ⟨a, _⟩ | ⟨_, a, _⟩ | ⟨_, _, a, _⟩ | ⟨_, _, _, e⟩
  · exact absurd a (no 3 (by omega))
  · exact absurd a (no 2 (by omega))
  · exact absurd a (no 1 (by omega))
  · exact e
theorem thing_neg {s : ByteArray} {q : Nat} (hq : q < s.size) (h : (runeAt s q).1 < 0) : thing s q = .bad q := by
  have hp : ∀ b : UInt8, ¬ pre s q [47, b] = true := fun b hp => by
    rw [pre_low hq hp (by decide) (by decide)] at h
    exact absurd h (by decide)
  rw [thing_eq, if_neg (by omega), if_neg (fun x => by have := blkR_pos x; omega), if_neg (hp _), if_neg (hp _), if_neg (fun x => by have := letR_pos x; omega),
    if_neg (fun x => by
      unfold digTest at x
      rcases Bool.or_eq_true_iff.1 x with x | x
      · have := digR_pos x; omega
      · have := of_decide_eq_true (Bool.and_eq_true_iff.1 x).1; omega),
    if_neg (by omega), if_neg (by omega), if_neg (by omega), if_neg (by omega), if_pos (sign_neg hq h)]
/-- A digit stands at a place just if its byte is one. -/
theorem dig_byte (s : ByteArray) (q : Nat) (h : q < s.size) : digR (rn s q).1 = digR (byt s q : Nat) := by
  rw [rn_in h]
  rcases (by omega : (byt s q = 0 ∨ 128 ≤ byt s q) ∨ (0 < byt s q ∧ byt s q < 128)) with hb | ⟨hb0, hb1⟩
  · have e : digR (byt s q : Nat) = false := by unfold digR; rw [decide_eq_false_iff_not]; omega
    rw [e]
    rcases rune_high h hb with h2 | h2 <;> (unfold digR; rw [decide_eq_false_iff_not]; omega)
  · rw [rune_low h rfl hb0 hb1]
theorem dig_out (s : ByteArray) (q : Nat) (h : ¬ q < s.size) : digR (rn s q).1 = false := by rw [rn_out h]; rfl
def nextV (s : ByteArray) (q : Nat) : Th → Value
  | .bad f => thV 7 0 f
  | .lf => thV (-2) 1 0
  | .blank => thV (-1) 1 0
  | .note e => thV (if hasLF s q e = true then -4 else -3) (e - q) 0
  | .tok k e => thV k (e - q) 0
theorem ret26 {R : Ending → World → Prop} {a : Act} (w : World) (g : Nat) (x y z : Value) (hg : w.heap[g]? = some (.cells #[.int .i64 0, .int .i64 0, .int .i64 0] 67 (0, 0)))
    (hp : a.tmps.getD 4 undef = .pointer (some ⟨g, 0, none⟩)) (hd : a.defers = []) (hR : R (.returned (.agg #[x, y, z])) (w.setRow g #[x, y, z])) :
    bodyPost Tryz.prog Tryz.f29 R .ret a (((w.setCell ⟨g, 0, none⟩ x).setCell ⟨g, 1, none⟩ y).setCell ⟨g, 2, none⟩ z) := by
  rw [set3 w g _ _ _ x y z _ _ hg]
  exact bodyPost_ret (results_cell_row (fr := (0, 0)) rfl _ _ g 67 _ _ hp (setRow_heap _ _ _ _ _ _ hg) Tryz.underlying67 rfl size49) hd hR
theorem sgL_get {k : Nat} {y : ByteArray} (h : sgL[k]? = some y) : signs[k]? = some y.data.toList ∧ y.size ≤ 3 := by
  have e : signs[k]? = some y.data.toList := by rw [← sgL_is, List.getElem?_map, h]; rfl
  refine ⟨e, ?_⟩
  have := (signs_len _ (List.mem_of_getElem? e)).2
  rw [Lib.size_eq]; exact this
def bestK (s : ByteArray) (q k : Nat) : Nat := (signs.take k).foldl (bestF s q) 0
theorem best_step {s : ByteArray} {q k : Nat} {y : ByteArray} (h : sgL[k]? = some y) : bestK s q (k + 1) = if (pre s q y.data.toList && decide (bestK s q k < y.size)) = true then y.size else bestK s q k := by
  unfold bestK
  rw [List.take_add_one, (sgL_get h).1, List.foldl_append, Lib.size_eq]
  rfl
theorem best_bound (s : ByteArray) (q : Nat) : ∀ k, k ≤ 47 → bestK s q k ≤ 3
  | 0, _ => by unfold bestK; simp
  | k + 1, h => by
    obtain ⟨y, hy⟩ : ∃ y, sgL[k]? = some y := ⟨_, List.getElem?_eq_getElem (by rw [sgL_len]; omega)⟩
    rw [best_step hy]
    split
    · exact (sgL_get hy).2
    · exact best_bound s q k (by omega)
theorem best_all {s : ByteArray} {q : Nat} (hq : q ≤ s.size) : bestK s q 47 = signN s q := by
  rw [← best_sign hq]; rfl
set_option maxRecDepth 100000 in
set_option maxHeartbeats 8000000 in
theorem next26_any (s : ByteArray) (at_ : Nat) (w : World) (hs : s.size ≤ 1048576) (ha : at_ < s.size) :
    Calls Tryz.prog 29 #[.string s, .int .i64 at_] w fun e w' => e = .returned (nextV s at_ (thing s at_)) ∧ Below w.heap.size w w' := by
  have haI : (at_ : Int) < (s.size : Int) := by omega
  have hle : at_ ≤ s.size := by omega
  have hrb := runeAt_bounds s at_
  have HR := Lib.hid (fun w1 => refRune_any s at_ w1 (by omega))
  rw [rn_in ha] at HR
  have Hth := Lib.hid (thing_eq s at_)
  have HrS := Lib.hid (rune_byte ha)
  have Hneg := Lib.hid (thing_neg ha)
  have HP1 := Lib.hid (fun w1 => begins_any s ⟨#[47, 47]⟩ at_ w1 hs (by decide) hle)
  have HP2 := Lib.hid (fun w1 => begins_any s ⟨#[47, 42]⟩ at_ w1 hs (by decide) hle)
  obtain ⟨r, hrr⟩ : ∃ r, r = (runeAt s at_).1 := ⟨_, rfl⟩
  obtain ⟨n, hnn⟩ : ∃ n, n = (runeAt s at_).2 := ⟨_, rfl⟩
  rw [← hrr, ← hnn] at HR
  rw [← hrr] at Hth hrb HrS Hneg
  clear hrr
  have HBL := Lib.hid (fun w1 => refBlank_any r w1)
  have HLT := Lib.hid (fun w1 => refLetter_any r w1)
  have HDT := Lib.hid (fun w1 => refDigit_any r w1)
  have hnew := heap_alloc_new w (.cells #[.int .i64 0, .int .i64 0, .int .i64 0] 67)
  have hBa := (Below.refl w.heap.size w).alloc (Nat.le_refl _) (.cells #[.int .i64 0, .int .i64 0, .int .i64 0] 67)
  have Hnew := Lib.hid hnew
  have HBa := Lib.hid hBa
  have hnb : n ≤ 1048576 := by have := runeAt_range s at_ ha; omega
  clear hnew hBa hnn
  go_enter Tryz.func29, Tryz.ntmps29
  go_wp2_with fail
  generalize w.alloc (.cells #[.int .i64 0, .int .i64 0, .int .i64 0] 67) = wa at *
  have Hlt := Lib.hid (lt_of_block Hnew.out)
  go_wp2_with fail
  refine (HR.out _).mono ?_
  rintro e1 w1 ⟨rfl, hB1⟩
  have HB := Lib.hid hB1
  clear hB1
  by_cases t0 : r < 0
  · have Hth2 := Lib.hid (Hneg.out t0)
    have HBk1 := Lib.hid ((HB.out.block w.heap.size Hlt.out).trans Hnew.out)
    have c0 := block_cell HBk1.out 0
    have c1 := block_cell HBk1.out 1
    have c2 := block_cell HBk1.out 2
    have f0 := block_free HBk1.out 0
    have f1 := block_free HBk1.out 1
    have f2 := block_free HBk1.out 2
    go_wp2_with fail
    exact ret26 _ _ _ _ _ HBk1.out rfl rfl ⟨by rw [Hth2.out]; rfl, below_set3 (HBa.out.trans (HB.out.mono HBa.out.size)) HBk1.out (Nat.le_refl _) _ _ _⟩
  by_cases t1 : r = 10
  · have Hth2 := Lib.hid (show thing s at_ = .lf by rw [Hth.out, if_pos t1])
    clear hrb
    subst t1
    have HBk1 := Lib.hid ((HB.out.block w.heap.size Hlt.out).trans Hnew.out)
    have c0 := block_cell HBk1.out 0
    have c1 := block_cell HBk1.out 1
    have c2 := block_cell HBk1.out 2
    have f0 := block_free HBk1.out 0
    have f1 := block_free HBk1.out 1
    have f2 := block_free HBk1.out 2
    go_wp2_with fail
    exact ret26 _ _ _ _ _ HBk1.out rfl rfl ⟨by rw [Hth2.out]; rfl, below_set3 (HBa.out.trans (HB.out.mono HBa.out.size)) HBk1.out (Nat.le_refl _) _ _ _⟩
  have u1 : (r == 10) = false := beq_eq_false_iff_ne.2 t1
  by_cases t2 : blkR r = true
  · have Hth2 := Lib.hid (show thing s at_ = .blank by rw [Hth.out, if_neg t1, if_pos t2])
    rw [t2] at HBL
    clear t2
    go_wp2_with fail
    refine (HBL.out _).mono ?_
    rintro e1 w1 ⟨rfl, rfl⟩
    have HBk1 := Lib.hid ((HB.out.block w.heap.size Hlt.out).trans Hnew.out)
    have c0 := block_cell HBk1.out 0
    have c1 := block_cell HBk1.out 1
    have c2 := block_cell HBk1.out 2
    have f0 := block_free HBk1.out 0
    have f1 := block_free HBk1.out 1
    have f2 := block_free HBk1.out 2
    go_wp2_with fail
    exact ret26 _ _ _ _ _ HBk1.out rfl rfl ⟨by rw [Hth2.out]; rfl, below_set3 (HBa.out.trans (HB.out.mono HBa.out.size)) HBk1.out (Nat.le_refl _) _ _ _⟩
  have Ht2 := Lib.hid (show ¬ blkR r = true from t2)
  rw [Bool.eq_false_iff.2 t2] at HBL
  clear t2
  go_wp2_with fail
  refine (HBL.out _).mono ?_
  rintro e1 w1 ⟨rfl, rfl⟩
  clear HBL
  by_cases t3 : pre s at_ [47, 47] = true
  · have HPt := Lib.hid t3
    rw [show pre s at_ (ByteArray.mk #[47, 47]).data.toList = true from t3] at HP1
    go_wp2_with fail
    refine (HP1.out _).mono ?_
    rintro e1 w1 ⟨rfl, rfl⟩
    cases hl : lineR s at_ with
    | inl f =>
      have Hth2 := Lib.hid (show thing s at_ = .bad f by rw [Hth.out, if_neg t1, if_neg Ht2.out, if_pos t3, hl]; rfl)
      have HK : Hid (∀ w1, Calls Tryz.prog 52 #[.string s, .int .i64 at_] w1 fun e' w' => e' = .returned (.agg #[.int .i64 (7), .int .i64 (0), .int .i64 ((f : Nat))]) ∧ Below w1.heap.size w1 w') := Lib.hid (fun w1 => (refLine_any s at_ w1 hs hle t3).mono (fun e2 w2 hh => ⟨by rw [hh.1, hl]; rfl, hh.2⟩))
      clear hl
      go_wp2_with fail
      refine (HK.out _).mono ?_
      rintro e1 w1 ⟨rfl, hB1⟩
      have HB := Lib.hid (HB.out.trans (hB1.mono HB.out.size))
      clear hB1
      have HBk1 := Lib.hid ((HB.out.block w.heap.size Hlt.out).trans Hnew.out)
      have c0 := block_cell HBk1.out 0
      have c1 := block_cell HBk1.out 1
      have c2 := block_cell HBk1.out 2
      have f0 := block_free HBk1.out 0
      have f1 := block_free HBk1.out 1
      have f2 := block_free HBk1.out 2
      go_wp2_with fail
      exact ret26 _ _ _ _ _ HBk1.out rfl rfl ⟨by rw [Hth2.out]; rfl, below_set3 (HBa.out.trans (HB.out.mono HBa.out.size)) HBk1.out (Nat.le_refl _) _ _ _⟩
    | inr e =>
      have Hth2 := Lib.hid (show thing s at_ = .note e by rw [Hth.out, if_neg t1, if_neg Ht2.out, if_pos t3, hl]; rfl)
      have Hlf := Lib.hid (line_no_lf hle hl)
      have HK : Hid (∀ w1, Calls Tryz.prog 52 #[.string s, .int .i64 at_] w1 fun e' w' => e' = .returned (.agg #[.int .i64 (-3), .int .i64 ((e - at_ : Nat)), .int .i64 (0)]) ∧ Below w1.heap.size w1 w') := Lib.hid (fun w1 => (refLine_any s at_ w1 hs hle t3).mono (fun e2 w2 hh => ⟨by rw [hh.1, hl]; rfl, hh.2⟩))
      clear hl
      go_wp2_with fail
      refine (HK.out _).mono ?_
      rintro e1 w1 ⟨rfl, hB1⟩
      have HB := Lib.hid (HB.out.trans (hB1.mono HB.out.size))
      clear hB1
      have HBk1 := Lib.hid ((HB.out.block w.heap.size Hlt.out).trans Hnew.out)
      have c0 := block_cell HBk1.out 0
      have c1 := block_cell HBk1.out 1
      have c2 := block_cell HBk1.out 2
      have f0 := block_free HBk1.out 0
      have f1 := block_free HBk1.out 1
      have f2 := block_free HBk1.out 2
      go_wp2_with fail
      exact ret26 _ _ _ _ _ HBk1.out rfl rfl ⟨by rw [Hth2.out]; simp only [nextV, Hlf.out]; rfl, below_set3 (HBa.out.trans (HB.out.mono HBa.out.size)) HBk1.out (Nat.le_refl _) _ _ _⟩
  have Ht3 := Lib.hid (show ¬ pre s at_ [47, 47] = true from t3)
  rw [show pre s at_ (ByteArray.mk #[47, 47]).data.toList = false from Bool.eq_false_iff.2 t3] at HP1
  clear t3
  by_cases t4 : pre s at_ [47, 42] = true
  · rw [show pre s at_ (ByteArray.mk #[47, 42]).data.toList = true from t4] at HP2
    go_wp2_with fail
    refine (HP1.out _).mono ?_
    rintro e1 w1 ⟨rfl, rfl⟩
    go_wp2_with fail
    refine (HP2.out _).mono ?_
    rintro e1 w1 ⟨rfl, rfl⟩
    cases hl : closedR s [42, 47] at_ (at_ + 2) with
    | inl f =>
      have Hth2 := Lib.hid (show thing s at_ = .bad f by rw [Hth.out, if_neg t1, if_neg Ht2.out, if_neg Ht3.out, if_pos t4, hl]; rfl)
      have HK : Hid (∀ w1, Calls Tryz.prog 52 #[.string s, .int .i64 at_] w1 fun e' w' => e' = .returned (.agg #[.int .i64 (7), .int .i64 (0), .int .i64 ((f : Nat))]) ∧ Below w1.heap.size w1 w') := Lib.hid (fun w1 => (refMany_any s at_ w1 hs hle t4).mono (fun e2 w2 hh => ⟨by rw [hh.1, hl]; rfl, hh.2⟩))
      clear hl
      go_wp2_with fail
      refine (HK.out _).mono ?_
      rintro e1 w1 ⟨rfl, hB1⟩
      have HB := Lib.hid (HB.out.trans (hB1.mono HB.out.size))
      clear hB1
      have HBk1 := Lib.hid ((HB.out.block w.heap.size Hlt.out).trans Hnew.out)
      have c0 := block_cell HBk1.out 0
      have c1 := block_cell HBk1.out 1
      have c2 := block_cell HBk1.out 2
      have f0 := block_free HBk1.out 0
      have f1 := block_free HBk1.out 1
      have f2 := block_free HBk1.out 2
      go_wp2_with fail
      exact ret26 _ _ _ _ _ HBk1.out rfl rfl ⟨by rw [Hth2.out]; rfl, below_set3 (HBa.out.trans (HB.out.mono HBa.out.size)) HBk1.out (Nat.le_refl _) _ _ _⟩
    | inr e =>
      have Hth2 := Lib.hid (show thing s at_ = .note e by rw [Hth.out, if_neg t1, if_neg Ht2.out, if_neg Ht3.out, if_pos t4, hl]; rfl)
      cases hlf : hasLF s at_ e with
      | true =>
        have Hlf := Lib.hid hlf
        have HK : Hid (∀ w1, Calls Tryz.prog 52 #[.string s, .int .i64 at_] w1 fun e' w' => e' = .returned (.agg #[.int .i64 (-4), .int .i64 ((e - at_ : Nat)), .int .i64 (0)]) ∧ Below w1.heap.size w1 w') := Lib.hid (fun w1 => (refMany_any s at_ w1 hs hle t4).mono (fun e2 w2 hh => ⟨by rw [hh.1, hl]; simp only [manyV, hlf]; rfl, hh.2⟩))
        clear hl hlf
        go_wp2_with fail
        refine (HK.out _).mono ?_
        rintro e1 w1 ⟨rfl, hB1⟩
        have HB := Lib.hid (HB.out.trans (hB1.mono HB.out.size))
        clear hB1
        have HBk1 := Lib.hid ((HB.out.block w.heap.size Hlt.out).trans Hnew.out)
        have c0 := block_cell HBk1.out 0
        have c1 := block_cell HBk1.out 1
        have c2 := block_cell HBk1.out 2
        have f0 := block_free HBk1.out 0
        have f1 := block_free HBk1.out 1
        have f2 := block_free HBk1.out 2
        go_wp2_with fail
        exact ret26 _ _ _ _ _ HBk1.out rfl rfl ⟨by rw [Hth2.out]; simp only [nextV, Hlf.out]; rfl, below_set3 (HBa.out.trans (HB.out.mono HBa.out.size)) HBk1.out (Nat.le_refl _) _ _ _⟩
      | false =>
        have Hlf := Lib.hid hlf
        have HK : Hid (∀ w1, Calls Tryz.prog 52 #[.string s, .int .i64 at_] w1 fun e' w' => e' = .returned (.agg #[.int .i64 (-3), .int .i64 ((e - at_ : Nat)), .int .i64 (0)]) ∧ Below w1.heap.size w1 w') := Lib.hid (fun w1 => (refMany_any s at_ w1 hs hle t4).mono (fun e2 w2 hh => ⟨by rw [hh.1, hl]; simp only [manyV, hlf]; rfl, hh.2⟩))
        clear hl hlf
        go_wp2_with fail
        refine (HK.out _).mono ?_
        rintro e1 w1 ⟨rfl, hB1⟩
        have HB := Lib.hid (HB.out.trans (hB1.mono HB.out.size))
        clear hB1
        have HBk1 := Lib.hid ((HB.out.block w.heap.size Hlt.out).trans Hnew.out)
        have c0 := block_cell HBk1.out 0
        have c1 := block_cell HBk1.out 1
        have c2 := block_cell HBk1.out 2
        have f0 := block_free HBk1.out 0
        have f1 := block_free HBk1.out 1
        have f2 := block_free HBk1.out 2
        go_wp2_with fail
        exact ret26 _ _ _ _ _ HBk1.out rfl rfl ⟨by rw [Hth2.out]; simp only [nextV, Hlf.out]; rfl, below_set3 (HBa.out.trans (HB.out.mono HBa.out.size)) HBk1.out (Nat.le_refl _) _ _ _⟩
  have Ht4 := Lib.hid (show ¬ pre s at_ [47, 42] = true from t4)
  rw [show pre s at_ (ByteArray.mk #[47, 42]).data.toList = false from Bool.eq_false_iff.2 t4] at HP2
  clear t4
  go_wp2_with fail
  refine (HP1.out _).mono ?_
  rintro e1 w1 ⟨rfl, rfl⟩
  go_wp2_with fail
  refine (HP2.out _).mono ?_
  rintro e1 w1 ⟨rfl, rfl⟩
  clear HP1 HP2
  by_cases t5 : letR r = true
  · have Hth2 := Lib.hid (show thing s at_ = .tok 1 (identE s at_) by rw [Hth.out, if_neg t1, if_neg Ht2.out, if_neg Ht3.out, if_neg Ht4.out, if_pos t5])
    rw [t5] at HLT
    clear t5
    go_wp2_with fail
    refine (HLT.out _).mono ?_
    rintro e1 w1 ⟨rfl, rfl⟩
    have HK := Lib.hid (fun w1 => name_any s at_ w1 hs hle)
    go_wp2_with fail
    refine (HK.out _).mono ?_
    rintro e1 w1 ⟨rfl, hB1⟩
    have HB := Lib.hid (HB.out.trans (hB1.mono HB.out.size))
    clear hB1
    have HBk1 := Lib.hid ((HB.out.block w.heap.size Hlt.out).trans Hnew.out)
    have c0 := block_cell HBk1.out 0
    have c1 := block_cell HBk1.out 1
    have c2 := block_cell HBk1.out 2
    have f0 := block_free HBk1.out 0
    have f1 := block_free HBk1.out 1
    have f2 := block_free HBk1.out 2
    go_wp2_with fail
    exact ret26 _ _ _ _ _ HBk1.out rfl rfl ⟨by rw [Hth2.out]; rfl, below_set3 (HBa.out.trans (HB.out.mono HBa.out.size)) HBk1.out (Nat.le_refl _) _ _ _⟩
  have Ht5 := Lib.hid (show ¬ letR r = true from t5)
  rw [Bool.eq_false_iff.2 t5] at HLT
  clear t5
  go_wp2_with fail
  refine (HLT.out _).mono ?_
  rintro e1 w1 ⟨rfl, rfl⟩
  clear HLT
  have HNth := Lib.hid (show digTest s at_ r = true → thing s at_ = .tok 2 (numE s (hexP s at_) (at_ + 1)) from fun t6 => by rw [Hth.out, if_neg t1, if_neg Ht2.out, if_neg Ht3.out, if_neg Ht4.out, if_neg Ht5.out, if_pos t6])
  by_cases t6 : digR r = true
  · have Hth2 := Lib.hid (HNth.out (by unfold digTest; rw [t6]; rfl))
    have hd : byt s at_ = 46 ∨ (48 ≤ byt s at_ ∧ byt s at_ ≤ 57) := by
      have h2 := of_decide_eq_true t6
      obtain ⟨c, hc⟩ : ∃ c : Nat, r = (c : Int) := ⟨r.toNat, by omega⟩
      have := (HrS.out c (by omega) (by omega)).1 hc
      omega
    have Hd := Lib.hid hd
    rw [t6] at HDT
    clear t6 hd
    go_wp2_with fail
    refine (HDT.out _).mono ?_
    rintro e1 w1 ⟨rfl, rfl⟩
    have HK := Lib.hid (fun w1 => refNumber_any s at_ w1 hs ha Hd.out)
    go_wp2_with fail
    refine (HK.out _).mono ?_
    rintro e1 w1 ⟨rfl, rfl⟩
    have HBk1 := Lib.hid ((HB.out.block w.heap.size Hlt.out).trans Hnew.out)
    have c0 := block_cell HBk1.out 0
    have c1 := block_cell HBk1.out 1
    have c2 := block_cell HBk1.out 2
    have f0 := block_free HBk1.out 0
    have f1 := block_free HBk1.out 1
    have f2 := block_free HBk1.out 2
    go_wp2_with fail
    exact ret26 _ _ _ _ _ HBk1.out rfl rfl ⟨by rw [Hth2.out]; rfl, below_set3 (HBa.out.trans (HB.out.mono HBa.out.size)) HBk1.out (Nat.le_refl _) _ _ _⟩
  have t6f := Bool.eq_false_iff.2 t6
  rw [t6f] at HDT
  by_cases t7 : r = 46
  · have hb46 := (HrS.out 46 (by omega) (by omega)).1 t7
    have Hd := Lib.hid (show byt s at_ = 46 ∨ (48 ≤ byt s at_ ∧ byt s at_ ≤ 57) from .inl hb46)
    clear hb46
    by_cases t7b : at_ + 1 < s.size
    · have haJ : (at_ : Int) < (s.size : Int) - 1 := by omega
      have haK : (at_ : Int) + 1 < (s.size : Int) := by omega
      have hdb := dig_byte s (at_ + 1) t7b
      have htn : ((at_ : Int) + 1).toNat = at_ + 1 := by omega
      have hb1 := byt_at3 s (at_ + 1) t7b
      have HD2 := Lib.hid (fun w1 => refDigit_any (((s[at_ + 1]'t7b).toNat : Nat) : Int) w1)
      rw [hb1] at HD2
      have hbb : (s[at_ + 1]'t7b).toNat ≤ 255 := by have := (s[at_ + 1]'t7b).toNat_lt; omega
      cases hdg : digR (byt s (at_ + 1) : Nat) with
      | true =>
        have Hth2 := Lib.hid (HNth.out (by unfold digTest; rw [hdb, hdg, t7]; rfl))
        rw [hdg] at HD2
        rw [← hb1] at HD2
        clear hdg t6 t6f HNth hdb hb1 hrb
        subst t7
        go_wp2_with fail
        refine (HDT.out _).mono ?_
        rintro e1 w1 ⟨rfl, rfl⟩
        go_wp2_with fail
        refine (HD2.out _).mono ?_
        rintro e1 w1 ⟨rfl, rfl⟩
        have HK := Lib.hid (fun w1 => refNumber_any s at_ w1 hs ha Hd.out)
        go_wp2_with fail
        refine (HK.out _).mono ?_
        rintro e1 w1 ⟨rfl, rfl⟩
        have HBk1 := Lib.hid ((HB.out.block w.heap.size Hlt.out).trans Hnew.out)
        have c0 := block_cell HBk1.out 0
        have c1 := block_cell HBk1.out 1
        have c2 := block_cell HBk1.out 2
        have f0 := block_free HBk1.out 0
        have f1 := block_free HBk1.out 1
        have f2 := block_free HBk1.out 2
        go_wp2_with fail
        exact ret26 _ _ _ _ _ HBk1.out rfl rfl ⟨by rw [Hth2.out]; rfl, below_set3 (HBa.out.trans (HB.out.mono HBa.out.size)) HBk1.out (Nat.le_refl _) _ _ _⟩
      | false =>
        have hdt : ¬ digTest s at_ r = true := by unfold digTest; rw [t6f, hdb, hdg]; simp
        have Hth2 := Lib.hid (show thing s at_ = (if signN s at_ = 0 then .bad at_ else .tok 5 (at_ + signN s at_)) by rw [Hth.out, if_neg t1, if_neg Ht2.out, if_neg Ht3.out, if_neg Ht4.out, if_neg Ht5.out, if_neg hdt, if_neg (by rw [t7]; decide), if_neg (by rw [t7]; decide), if_neg (by rw [t7]; decide), if_neg (by rw [t7]; decide)])
        rw [hdg] at HD2
        rw [← hb1] at HD2
        clear hdg hdt t6 t6f HNth hdb hb1 hrb
        subst t7
        go_wp2_with fail
        refine (HDT.out _).mono ?_
        rintro e1 w1 ⟨rfl, rfl⟩
        go_wp2_with fail
        refine (HD2.out _).mono ?_
        rintro e1 w1 ⟨rfl, rfl⟩
        go_wp2_with fail
        have HSG := Lib.hid (fun w1 => refSigns_any w1)
        refine (HSG.out _).mono ?_
        rintro e1 w2 ⟨rfl, hC, hltS, hB1⟩
        have HC := Lib.hid hC
        have HB := Lib.hid (HB.out.trans (hB1.mono HB.out.size))
        clear hC hB1
        generalize w1.heap.size = gS at *
        go_wp2_with fail
        go_loopg [7, 87] 47 (fun g bv iv wr => ∃ k : Nat, k + g = 47 ∧ bv = .int .i64 (bestK s at_ k) ∧ iv = .int .i64 k ∧ wr = w2)
        case atStart => exact ⟨0, by omega, rfl, rfl, rfl⟩
        case round =>
          obtain ⟨k, hkg, rfl, rfl, rfl⟩ := hrel
          have hbb := best_bound s at_ k (by omega)
          by_cases hk : k < 47
          · have hkI : (k : Int) < 47 := by omega
            obtain ⟨y, hy⟩ : ∃ y, sgL[k]? = some y := ⟨_, List.getElem?_eq_getElem (by rw [sgL_len]; omega)⟩
            have ck := HC.out k y hy
            have hy3 := (sgL_get hy).2
            have HBG := Lib.hid (fun w1 => begins_any s y at_ w1 hs (by omega) hle)
            have hst := best_step (s := s) (q := at_) hy
            clear hy
            generalize bestK s at_ k = bk at *
            cases hp : pre s at_ y.data.toList with
            | true =>
              rw [hp] at HBG hst
              by_cases hlt : bk < y.size
              · have hltI : (bk : Int) < (y.size : Int) := by omega
                rw [decide_eq_true hlt] at hst
                have Hst := Lib.hid (show bestK s at_ (k + 1) = y.size from hst)
                clear hst hp
                go_wp2_with fail
                refine (HBG.out _).mono ?_
                rintro e1 w1 ⟨rfl, rfl⟩
                go_wp2_with fail
                go_roundg (gk - 1)
                case measure => omega
                case rel => exact ⟨k + 1, by omega, by rw [Hst.out], by go_num, rfl⟩
              · have hltI : ¬ (bk : Int) < (y.size : Int) := by omega
                rw [decide_eq_false hlt] at hst
                have Hst := Lib.hid (show bestK s at_ (k + 1) = bk from hst)
                clear hst hp
                go_wp2_with fail
                refine (HBG.out _).mono ?_
                rintro e1 w1 ⟨rfl, rfl⟩
                go_wp2_with fail
                go_roundg (gk - 1)
                case measure => omega
                case rel => exact ⟨k + 1, by omega, by rw [Hst.out], by go_num, rfl⟩
            | false =>
              rw [hp] at HBG hst
              have Hst := Lib.hid (show bestK s at_ (k + 1) = bk from hst)
              clear hst hp
              go_wp2_with fail
              refine (HBG.out _).mono ?_
              rintro e1 w1 ⟨rfl, rfl⟩
              go_wp2_with fail
              go_roundg (gk - 1)
              case measure => omega
              case rel => exact ⟨k + 1, by omega, by rw [Hst.out], by go_num, rfl⟩
          · have hkI : ¬ (k : Int) < 47 := by omega
            obtain rfl : k = 47 := by omega
            rw [best_all hle] at hbb ⊢
            by_cases h0 : signN s at_ = 0
            · have Hth2 := Lib.hid (show thing s at_ = .bad at_ by rw [Hth2.out, if_pos h0])
              rw [h0]
              have HBk1 := Lib.hid ((HB.out.block w.heap.size Hlt.out).trans Hnew.out)
              have c0 := block_cell HBk1.out 0
              have c1 := block_cell HBk1.out 1
              have c2 := block_cell HBk1.out 2
              have f0 := block_free HBk1.out 0
              have f1 := block_free HBk1.out 1
              have f2 := block_free HBk1.out 2
              go_wp2_with fail
              exact ret26 _ _ _ _ _ HBk1.out rfl rfl ⟨by rw [Hth2.out]; rfl, below_set3 (HBa.out.trans (HB.out.mono HBa.out.size)) HBk1.out (Nat.le_refl _) _ _ _⟩
            · have Hth2 := Lib.hid (show thing s at_ = .tok 5 (at_ + signN s at_) by rw [Hth2.out, if_neg h0])
              have h0I : (0 : Int) < (signN s at_ : Nat) := by omega
              have HBk1 := Lib.hid ((HB.out.block w.heap.size Hlt.out).trans Hnew.out)
              have c0 := block_cell HBk1.out 0
              have c1 := block_cell HBk1.out 1
              have c2 := block_cell HBk1.out 2
              have f0 := block_free HBk1.out 0
              have f1 := block_free HBk1.out 1
              have f2 := block_free HBk1.out 2
              go_wp2_with fail
              exact ret26 _ _ _ _ _ HBk1.out rfl rfl ⟨by rw [Hth2.out]; simp only [nextV, Nat.add_sub_cancel_left]; rfl, below_set3 (HBa.out.trans (HB.out.mono HBa.out.size)) HBk1.out (Nat.le_refl _) _ _ _⟩
    · have haJ : ¬ (at_ : Int) < (s.size : Int) - 1 := by omega
      have hdt : ¬ digTest s at_ r = true := by unfold digTest; rw [t6f, dig_out s _ t7b]; simp
      have Hth2 := Lib.hid (show thing s at_ = (if signN s at_ = 0 then .bad at_ else .tok 5 (at_ + signN s at_)) by rw [Hth.out, if_neg t1, if_neg Ht2.out, if_neg Ht3.out, if_neg Ht4.out, if_neg Ht5.out, if_neg hdt, if_neg (by rw [t7]; decide), if_neg (by rw [t7]; decide), if_neg (by rw [t7]; decide), if_neg (by rw [t7]; decide)])
      clear hdt t6 t6f HNth hrb
      subst t7
      go_wp2_with fail
      refine (HDT.out _).mono ?_
      rintro e1 w1 ⟨rfl, rfl⟩
      go_wp2_with fail
      have HSG := Lib.hid (fun w1 => refSigns_any w1)
      refine (HSG.out _).mono ?_
      rintro e1 w2 ⟨rfl, hC, hltS, hB1⟩
      have HC := Lib.hid hC
      have HB := Lib.hid (HB.out.trans (hB1.mono HB.out.size))
      clear hC hB1
      generalize w1.heap.size = gS at *
      go_wp2_with fail
      go_loopg [7, 87] 47 (fun g bv iv wr => ∃ k : Nat, k + g = 47 ∧ bv = .int .i64 (bestK s at_ k) ∧ iv = .int .i64 k ∧ wr = w2)
      case atStart => exact ⟨0, by omega, rfl, rfl, rfl⟩
      case round =>
        obtain ⟨k, hkg, rfl, rfl, rfl⟩ := hrel
        have hbb := best_bound s at_ k (by omega)
        by_cases hk : k < 47
        · have hkI : (k : Int) < 47 := by omega
          obtain ⟨y, hy⟩ : ∃ y, sgL[k]? = some y := ⟨_, List.getElem?_eq_getElem (by rw [sgL_len]; omega)⟩
          have ck := HC.out k y hy
          have hy3 := (sgL_get hy).2
          have HBG := Lib.hid (fun w1 => begins_any s y at_ w1 hs (by omega) hle)
          have hst := best_step (s := s) (q := at_) hy
          clear hy
          generalize bestK s at_ k = bk at *
          cases hp : pre s at_ y.data.toList with
          | true =>
            rw [hp] at HBG hst
            by_cases hlt : bk < y.size
            · have hltI : (bk : Int) < (y.size : Int) := by omega
              rw [decide_eq_true hlt] at hst
              have Hst := Lib.hid (show bestK s at_ (k + 1) = y.size from hst)
              clear hst hp
              go_wp2_with fail
              refine (HBG.out _).mono ?_
              rintro e1 w1 ⟨rfl, rfl⟩
              go_wp2_with fail
              go_roundg (gk - 1)
              case measure => omega
              case rel => exact ⟨k + 1, by omega, by rw [Hst.out], by go_num, rfl⟩
            · have hltI : ¬ (bk : Int) < (y.size : Int) := by omega
              rw [decide_eq_false hlt] at hst
              have Hst := Lib.hid (show bestK s at_ (k + 1) = bk from hst)
              clear hst hp
              go_wp2_with fail
              refine (HBG.out _).mono ?_
              rintro e1 w1 ⟨rfl, rfl⟩
              go_wp2_with fail
              go_roundg (gk - 1)
              case measure => omega
              case rel => exact ⟨k + 1, by omega, by rw [Hst.out], by go_num, rfl⟩
          | false =>
            rw [hp] at HBG hst
            have Hst := Lib.hid (show bestK s at_ (k + 1) = bk from hst)
            clear hst hp
            go_wp2_with fail
            refine (HBG.out _).mono ?_
            rintro e1 w1 ⟨rfl, rfl⟩
            go_wp2_with fail
            go_roundg (gk - 1)
            case measure => omega
            case rel => exact ⟨k + 1, by omega, by rw [Hst.out], by go_num, rfl⟩
        · have hkI : ¬ (k : Int) < 47 := by omega
          obtain rfl : k = 47 := by omega
          rw [best_all hle] at hbb ⊢
          by_cases h0 : signN s at_ = 0
          · have Hth2 := Lib.hid (show thing s at_ = .bad at_ by rw [Hth2.out, if_pos h0])
            rw [h0]
            have HBk1 := Lib.hid ((HB.out.block w.heap.size Hlt.out).trans Hnew.out)
            have c0 := block_cell HBk1.out 0
            have c1 := block_cell HBk1.out 1
            have c2 := block_cell HBk1.out 2
            have f0 := block_free HBk1.out 0
            have f1 := block_free HBk1.out 1
            have f2 := block_free HBk1.out 2
            go_wp2_with fail
            exact ret26 _ _ _ _ _ HBk1.out rfl rfl ⟨by rw [Hth2.out]; rfl, below_set3 (HBa.out.trans (HB.out.mono HBa.out.size)) HBk1.out (Nat.le_refl _) _ _ _⟩
          · have Hth2 := Lib.hid (show thing s at_ = .tok 5 (at_ + signN s at_) by rw [Hth2.out, if_neg h0])
            have h0I : (0 : Int) < (signN s at_ : Nat) := by omega
            have HBk1 := Lib.hid ((HB.out.block w.heap.size Hlt.out).trans Hnew.out)
            have c0 := block_cell HBk1.out 0
            have c1 := block_cell HBk1.out 1
            have c2 := block_cell HBk1.out 2
            have f0 := block_free HBk1.out 0
            have f1 := block_free HBk1.out 1
            have f2 := block_free HBk1.out 2
            go_wp2_with fail
            exact ret26 _ _ _ _ _ HBk1.out rfl rfl ⟨by rw [Hth2.out]; simp only [nextV, Nat.add_sub_cancel_left]; rfl, below_set3 (HBa.out.trans (HB.out.mono HBa.out.size)) HBk1.out (Nat.le_refl _) _ _ _⟩
  have u7 : (r == 46) = false := beq_eq_false_iff_ne.2 t7
  have hdt : ¬ digTest s at_ r = true := by unfold digTest; rw [t6f, decide_eq_false t7]; simp
  have Ht6 := Lib.hid hdt
  clear t6 t6f HNth hdt
  go_wp2_with fail
  refine (HDT.out _).mono ?_
  rintro e1 w1 ⟨rfl, rfl⟩
  clear HDT
  by_cases t8 : r = 39
  · have hqb := (HrS.out 39 (by omega) (by omega)).1 t8
    subst t8
    clear hrb
    cases hl : quotR s 39 at_ (at_ + 1) false with
    | inl f =>
      have Hth2 := Lib.hid (show thing s at_ = .bad f by rw [Hth.out, if_neg t1, if_neg Ht2.out, if_neg Ht3.out, if_neg Ht4.out, if_neg Ht5.out, if_neg Ht6.out, if_pos rfl, hl]; rfl)
      have HK : Hid (∀ w1, Calls Tryz.prog 57 #[.string s, .int .i64 at_, .int .i64 3] w1 fun e' w' => e' = .returned (.agg #[.int .i64 (7), .int .i64 (0), .int .i64 ((f : Nat))]) ∧ Below w1.heap.size w1 w') := Lib.hid (fun w1 => (refQuote39_any s at_ w1 hs ha hqb).mono (fun e2 w2 hh => ⟨by rw [hh.1, ← quot_doc s 39 at_ (by decide) _ (at_ + 1) (Nat.le_refl _), hl]; rfl, hh.2⟩))
      clear hl
      go_wp2_with fail
      refine (HK.out _).mono ?_
      rintro e1 w1 ⟨rfl, hB1⟩
      have HB := Lib.hid (HB.out.trans (hB1.mono HB.out.size))
      clear hB1
      have HBk1 := Lib.hid ((HB.out.block w.heap.size Hlt.out).trans Hnew.out)
      have c0 := block_cell HBk1.out 0
      have c1 := block_cell HBk1.out 1
      have c2 := block_cell HBk1.out 2
      have f0 := block_free HBk1.out 0
      have f1 := block_free HBk1.out 1
      have f2 := block_free HBk1.out 2
      go_wp2_with fail
      exact ret26 _ _ _ _ _ HBk1.out rfl rfl ⟨by rw [Hth2.out]; rfl, below_set3 (HBa.out.trans (HB.out.mono HBa.out.size)) HBk1.out (Nat.le_refl _) _ _ _⟩
    | inr e =>
      have Hth2 := Lib.hid (show thing s at_ = .tok 3 e by rw [Hth.out, if_neg t1, if_neg Ht2.out, if_neg Ht3.out, if_neg Ht4.out, if_neg Ht5.out, if_neg Ht6.out, if_pos rfl, hl]; rfl)
      have HK : Hid (∀ w1, Calls Tryz.prog 57 #[.string s, .int .i64 at_, .int .i64 3] w1 fun e' w' => e' = .returned (.agg #[.int .i64 (3), .int .i64 ((e - at_ : Nat)), .int .i64 (0)]) ∧ Below w1.heap.size w1 w') := Lib.hid (fun w1 => (refQuote39_any s at_ w1 hs ha hqb).mono (fun e2 w2 hh => ⟨by rw [hh.1, ← quot_doc s 39 at_ (by decide) _ (at_ + 1) (Nat.le_refl _), hl]; rfl, hh.2⟩))
      clear hl
      go_wp2_with fail
      refine (HK.out _).mono ?_
      rintro e1 w1 ⟨rfl, hB1⟩
      have HB := Lib.hid (HB.out.trans (hB1.mono HB.out.size))
      clear hB1
      have HBk1 := Lib.hid ((HB.out.block w.heap.size Hlt.out).trans Hnew.out)
      have c0 := block_cell HBk1.out 0
      have c1 := block_cell HBk1.out 1
      have c2 := block_cell HBk1.out 2
      have f0 := block_free HBk1.out 0
      have f1 := block_free HBk1.out 1
      have f2 := block_free HBk1.out 2
      go_wp2_with fail
      exact ret26 _ _ _ _ _ HBk1.out rfl rfl ⟨by rw [Hth2.out]; rfl, below_set3 (HBa.out.trans (HB.out.mono HBa.out.size)) HBk1.out (Nat.le_refl _) _ _ _⟩
  have u8 : (r == 39) = false := beq_eq_false_iff_ne.2 t8
  by_cases t9 : r = 34
  · have hqb := (HrS.out 34 (by omega) (by omega)).1 t9
    subst t9
    clear hrb
    cases hl : quotR s 34 at_ (at_ + 1) false with
    | inl f =>
      have Hth2 := Lib.hid (show thing s at_ = .bad f by rw [Hth.out, if_neg t1, if_neg Ht2.out, if_neg Ht3.out, if_neg Ht4.out, if_neg Ht5.out, if_neg Ht6.out, if_neg t8, if_pos rfl, hl]; rfl)
      have HK : Hid (∀ w1, Calls Tryz.prog 57 #[.string s, .int .i64 at_, .int .i64 4] w1 fun e' w' => e' = .returned (.agg #[.int .i64 (7), .int .i64 (0), .int .i64 ((f : Nat))]) ∧ Below w1.heap.size w1 w') := Lib.hid (fun w1 => (refQuote34_any s at_ w1 hs ha hqb).mono (fun e2 w2 hh => ⟨by rw [hh.1, ← quot_doc s 34 at_ (by decide) _ (at_ + 1) (Nat.le_refl _), hl]; rfl, hh.2⟩))
      clear hl
      go_wp2_with fail
      refine (HK.out _).mono ?_
      rintro e1 w1 ⟨rfl, hB1⟩
      have HB := Lib.hid (HB.out.trans (hB1.mono HB.out.size))
      clear hB1
      have HBk1 := Lib.hid ((HB.out.block w.heap.size Hlt.out).trans Hnew.out)
      have c0 := block_cell HBk1.out 0
      have c1 := block_cell HBk1.out 1
      have c2 := block_cell HBk1.out 2
      have f0 := block_free HBk1.out 0
      have f1 := block_free HBk1.out 1
      have f2 := block_free HBk1.out 2
      go_wp2_with fail
      exact ret26 _ _ _ _ _ HBk1.out rfl rfl ⟨by rw [Hth2.out]; rfl, below_set3 (HBa.out.trans (HB.out.mono HBa.out.size)) HBk1.out (Nat.le_refl _) _ _ _⟩
    | inr e =>
      have Hth2 := Lib.hid (show thing s at_ = .tok 4 e by rw [Hth.out, if_neg t1, if_neg Ht2.out, if_neg Ht3.out, if_neg Ht4.out, if_neg Ht5.out, if_neg Ht6.out, if_neg t8, if_pos rfl, hl]; rfl)
      have HK : Hid (∀ w1, Calls Tryz.prog 57 #[.string s, .int .i64 at_, .int .i64 4] w1 fun e' w' => e' = .returned (.agg #[.int .i64 (4), .int .i64 ((e - at_ : Nat)), .int .i64 (0)]) ∧ Below w1.heap.size w1 w') := Lib.hid (fun w1 => (refQuote34_any s at_ w1 hs ha hqb).mono (fun e2 w2 hh => ⟨by rw [hh.1, ← quot_doc s 34 at_ (by decide) _ (at_ + 1) (Nat.le_refl _), hl]; rfl, hh.2⟩))
      clear hl
      go_wp2_with fail
      refine (HK.out _).mono ?_
      rintro e1 w1 ⟨rfl, hB1⟩
      have HB := Lib.hid (HB.out.trans (hB1.mono HB.out.size))
      clear hB1
      have HBk1 := Lib.hid ((HB.out.block w.heap.size Hlt.out).trans Hnew.out)
      have c0 := block_cell HBk1.out 0
      have c1 := block_cell HBk1.out 1
      have c2 := block_cell HBk1.out 2
      have f0 := block_free HBk1.out 0
      have f1 := block_free HBk1.out 1
      have f2 := block_free HBk1.out 2
      go_wp2_with fail
      exact ret26 _ _ _ _ _ HBk1.out rfl rfl ⟨by rw [Hth2.out]; rfl, below_set3 (HBa.out.trans (HB.out.mono HBa.out.size)) HBk1.out (Nat.le_refl _) _ _ _⟩
  have u9 : (r == 34) = false := beq_eq_false_iff_ne.2 t9
  by_cases t10 : r = 96
  · have hqb := (HrS.out 96 (by omega) (by omega)).1 t10
    subst t10
    clear hrb
    cases hl : closedR s [96] at_ (at_ + 1) with
    | inl f =>
      have Hth2 := Lib.hid (show thing s at_ = .bad f by rw [Hth.out, if_neg t1, if_neg Ht2.out, if_neg Ht3.out, if_neg Ht4.out, if_neg Ht5.out, if_neg Ht6.out, if_neg t8, if_neg t9, if_pos rfl, hl]; rfl)
      have HK : Hid (∀ w1, Calls Tryz.prog 57 #[.string s, .int .i64 at_, .int .i64 4] w1 fun e' w' => e' = .returned (.agg #[.int .i64 (7), .int .i64 (0), .int .i64 ((f : Nat))]) ∧ Below w1.heap.size w1 w') := Lib.hid (fun w1 => (refRaw_any s at_ w1 hs ha hqb).mono (fun e2 w2 hh => ⟨by rw [hh.1, hl]; rfl, hh.2⟩))
      clear hl
      go_wp2_with fail
      refine (HK.out _).mono ?_
      rintro e1 w1 ⟨rfl, hB1⟩
      have HB := Lib.hid (HB.out.trans (hB1.mono HB.out.size))
      clear hB1
      have HBk1 := Lib.hid ((HB.out.block w.heap.size Hlt.out).trans Hnew.out)
      have c0 := block_cell HBk1.out 0
      have c1 := block_cell HBk1.out 1
      have c2 := block_cell HBk1.out 2
      have f0 := block_free HBk1.out 0
      have f1 := block_free HBk1.out 1
      have f2 := block_free HBk1.out 2
      go_wp2_with fail
      exact ret26 _ _ _ _ _ HBk1.out rfl rfl ⟨by rw [Hth2.out]; rfl, below_set3 (HBa.out.trans (HB.out.mono HBa.out.size)) HBk1.out (Nat.le_refl _) _ _ _⟩
    | inr e =>
      have Hth2 := Lib.hid (show thing s at_ = .tok 4 e by rw [Hth.out, if_neg t1, if_neg Ht2.out, if_neg Ht3.out, if_neg Ht4.out, if_neg Ht5.out, if_neg Ht6.out, if_neg t8, if_neg t9, if_pos rfl, hl]; rfl)
      have HK : Hid (∀ w1, Calls Tryz.prog 57 #[.string s, .int .i64 at_, .int .i64 4] w1 fun e' w' => e' = .returned (.agg #[.int .i64 (4), .int .i64 ((e - at_ : Nat)), .int .i64 (0)]) ∧ Below w1.heap.size w1 w') := Lib.hid (fun w1 => (refRaw_any s at_ w1 hs ha hqb).mono (fun e2 w2 hh => ⟨by rw [hh.1, hl]; rfl, hh.2⟩))
      clear hl
      go_wp2_with fail
      refine (HK.out _).mono ?_
      rintro e1 w1 ⟨rfl, hB1⟩
      have HB := Lib.hid (HB.out.trans (hB1.mono HB.out.size))
      clear hB1
      have HBk1 := Lib.hid ((HB.out.block w.heap.size Hlt.out).trans Hnew.out)
      have c0 := block_cell HBk1.out 0
      have c1 := block_cell HBk1.out 1
      have c2 := block_cell HBk1.out 2
      have f0 := block_free HBk1.out 0
      have f1 := block_free HBk1.out 1
      have f2 := block_free HBk1.out 2
      go_wp2_with fail
      exact ret26 _ _ _ _ _ HBk1.out rfl rfl ⟨by rw [Hth2.out]; rfl, below_set3 (HBa.out.trans (HB.out.mono HBa.out.size)) HBk1.out (Nat.le_refl _) _ _ _⟩
  have u10 : (r == 96) = false := beq_eq_false_iff_ne.2 t10
  by_cases t11 : r = 59
  · have Hth2 := Lib.hid (show thing s at_ = .tok 6 (at_ + 1) by rw [Hth.out, if_neg t1, if_neg Ht2.out, if_neg Ht3.out, if_neg Ht4.out, if_neg Ht5.out, if_neg Ht6.out, if_neg t8, if_neg t9, if_neg t10, if_pos t11])
    clear hrb
    subst t11
    have HBk1 := Lib.hid ((HB.out.block w.heap.size Hlt.out).trans Hnew.out)
    have c0 := block_cell HBk1.out 0
    have c1 := block_cell HBk1.out 1
    have c2 := block_cell HBk1.out 2
    have f0 := block_free HBk1.out 0
    have f1 := block_free HBk1.out 1
    have f2 := block_free HBk1.out 2
    go_wp2_with fail
    exact ret26 _ _ _ _ _ HBk1.out rfl rfl ⟨by rw [Hth2.out]; simp only [nextV, Nat.add_sub_cancel_left]; rfl, below_set3 (HBa.out.trans (HB.out.mono HBa.out.size)) HBk1.out (Nat.le_refl _) _ _ _⟩
  have u11 : (r == 59) = false := beq_eq_false_iff_ne.2 t11
  have Hth2 := Lib.hid (show thing s at_ = (if signN s at_ = 0 then .bad at_ else .tok 5 (at_ + signN s at_)) by rw [Hth.out, if_neg t1, if_neg Ht2.out, if_neg Ht3.out, if_neg Ht4.out, if_neg Ht5.out, if_neg Ht6.out, if_neg t8, if_neg t9, if_neg t10, if_neg t11])
  clear t0 t1 t7 t8 t9 t10 t11
  go_wp2_with fail
  have HSG := Lib.hid (fun w1 => refSigns_any w1)
  refine (HSG.out _).mono ?_
  rintro e1 w2 ⟨rfl, hC, hltS, hB1⟩
  have HC := Lib.hid hC
  have HB := Lib.hid (HB.out.trans (hB1.mono HB.out.size))
  clear hC hB1
  generalize w1.heap.size = gS at *
  go_wp2_with fail
  go_loopg [7, 87] 47 (fun g bv iv wr => ∃ k : Nat, k + g = 47 ∧ bv = .int .i64 (bestK s at_ k) ∧ iv = .int .i64 k ∧ wr = w2)
  case atStart => exact ⟨0, by omega, rfl, rfl, rfl⟩
  case round =>
    obtain ⟨k, hkg, rfl, rfl, rfl⟩ := hrel
    have hbb := best_bound s at_ k (by omega)
    by_cases hk : k < 47
    · have hkI : (k : Int) < 47 := by omega
      obtain ⟨y, hy⟩ : ∃ y, sgL[k]? = some y := ⟨_, List.getElem?_eq_getElem (by rw [sgL_len]; omega)⟩
      have ck := HC.out k y hy
      have hy3 := (sgL_get hy).2
      have HBG := Lib.hid (fun w1 => begins_any s y at_ w1 hs (by omega) hle)
      have hst := best_step (s := s) (q := at_) hy
      clear hy
      generalize bestK s at_ k = bk at *
      cases hp : pre s at_ y.data.toList with
      | true =>
        rw [hp] at HBG hst
        by_cases hlt : bk < y.size
        · have hltI : (bk : Int) < (y.size : Int) := by omega
          rw [decide_eq_true hlt] at hst
          have Hst := Lib.hid (show bestK s at_ (k + 1) = y.size from hst)
          clear hst hp
          go_wp2_with fail
          refine (HBG.out _).mono ?_
          rintro e1 w1 ⟨rfl, rfl⟩
          go_wp2_with fail
          go_roundg (gk - 1)
          case measure => omega
          case rel => exact ⟨k + 1, by omega, by rw [Hst.out], by go_num, rfl⟩
        · have hltI : ¬ (bk : Int) < (y.size : Int) := by omega
          rw [decide_eq_false hlt] at hst
          have Hst := Lib.hid (show bestK s at_ (k + 1) = bk from hst)
          clear hst hp
          go_wp2_with fail
          refine (HBG.out _).mono ?_
          rintro e1 w1 ⟨rfl, rfl⟩
          go_wp2_with fail
          go_roundg (gk - 1)
          case measure => omega
          case rel => exact ⟨k + 1, by omega, by rw [Hst.out], by go_num, rfl⟩
      | false =>
        rw [hp] at HBG hst
        have Hst := Lib.hid (show bestK s at_ (k + 1) = bk from hst)
        clear hst hp
        go_wp2_with fail
        refine (HBG.out _).mono ?_
        rintro e1 w1 ⟨rfl, rfl⟩
        go_wp2_with fail
        go_roundg (gk - 1)
        case measure => omega
        case rel => exact ⟨k + 1, by omega, by rw [Hst.out], by go_num, rfl⟩
    · have hkI : ¬ (k : Int) < 47 := by omega
      obtain rfl : k = 47 := by omega
      rw [best_all hle] at hbb ⊢
      by_cases h0 : signN s at_ = 0
      · have Hth2 := Lib.hid (show thing s at_ = .bad at_ by rw [Hth2.out, if_pos h0])
        rw [h0]
        have HBk1 := Lib.hid ((HB.out.block w.heap.size Hlt.out).trans Hnew.out)
        have c0 := block_cell HBk1.out 0
        have c1 := block_cell HBk1.out 1
        have c2 := block_cell HBk1.out 2
        have f0 := block_free HBk1.out 0
        have f1 := block_free HBk1.out 1
        have f2 := block_free HBk1.out 2
        go_wp2_with fail
        exact ret26 _ _ _ _ _ HBk1.out rfl rfl ⟨by rw [Hth2.out]; rfl, below_set3 (HBa.out.trans (HB.out.mono HBa.out.size)) HBk1.out (Nat.le_refl _) _ _ _⟩
      · have Hth2 := Lib.hid (show thing s at_ = .tok 5 (at_ + signN s at_) by rw [Hth2.out, if_neg h0])
        have h0I : (0 : Int) < (signN s at_ : Nat) := by omega
        have HBk1 := Lib.hid ((HB.out.block w.heap.size Hlt.out).trans Hnew.out)
        have c0 := block_cell HBk1.out 0
        have c1 := block_cell HBk1.out 1
        have c2 := block_cell HBk1.out 2
        have f0 := block_free HBk1.out 0
        have f1 := block_free HBk1.out 1
        have f2 := block_free HBk1.out 2
        go_wp2_with fail
        exact ret26 _ _ _ _ _ HBk1.out rfl rfl ⟨by rw [Hth2.out]; simp only [nextV, Nat.add_sub_cancel_left]; rfl, below_set3 (HBa.out.trans (HB.out.mono HBa.out.size)) HBk1.out (Nat.le_refl _) _ _ _⟩
end Go.Proofs.YtejogobhnbjpdaaGreatDoor
