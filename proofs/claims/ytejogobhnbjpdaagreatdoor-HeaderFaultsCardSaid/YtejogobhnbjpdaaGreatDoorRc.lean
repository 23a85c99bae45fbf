/- Walks: the document's comments. -/
import Derived.Test.YtejogobhnbjpdaaGreatDoorRa
namespace Go.Proofs.YtejogobhnbjpdaaGreatDoor
set_option linter.unusedVariables false
set_option linter.unusedSimpArgs false
open Go.ChangeShapes Go.WideShapes Go.ChangeAt Go.RowKit

def thV (k : Int) (n a : Nat) : Value := .agg #[.int .i64 k, .int .i64 n, .int .i64 a]
def lineV (q : Nat) : Rs → Value | .inl f => thV 7 0 f | .inr e => thV (-3) (e - q) 0
theorem set3 (w : World) (g : Nat) (a b c x y z : Value) (t : TypeId) (fr : Nat × Nat) (hg : w.heap[g]? = some (.cells #[a, b, c] t fr)) :
    ((w.setCell ⟨g, 0, none⟩ x).setCell ⟨g, 1, none⟩ y).setCell ⟨g, 2, none⟩ z = w.setRow g #[x, y, z] := by
  rw [setCell_eq_setRow w g 0 _ t fr x hg, setCell_eq_setRow _ g 1 _ t fr y (setRow_heap _ _ _ _ _ _ hg), setRow_setRow,
    setCell_eq_setRow _ g 2 _ t fr z (setRow_heap _ _ _ _ _ _ hg), setRow_setRow]
  rfl
theorem below_set3 {B g : Nat} {w0 w : World} (hb : Below B w0 w) (hg : w.heap[g]? = some (.cells #[.int .i64 0, .int .i64 0, .int .i64 0] 67 (0, 0))) (h : B ≤ g) (x y z : Value) : Below B w0 (w.setRow g #[x, y, z]) := by
  rw [← set3 w g _ _ _ x y z _ _ hg]
  exact ((Below.setCell hb (p := ⟨g, 0, none⟩) h _).setCell (p := ⟨g, 1, none⟩) h _).setCell (p := ⟨g, 2, none⟩) h _
theorem size49 : (Tryz.prog.info? 67).map (·.size) = some 3 := by as_aux_lemma => kernel_rfl
theorem ret39 {R : Ending → World → Prop} {a : Act} (w : World) (g : Nat) (x y z : Value) (hg : w.heap[g]? = some (.cells #[.int .i64 0, .int .i64 0, .int .i64 0] 67 (0, 0)))
    (hp : a.tmps.getD 4 undef = .pointer (some ⟨g, 0, none⟩)) (hd : a.defers = []) (hR : R (.returned (.agg #[x, y, z])) (w.setRow g #[x, y, z])) :
    bodyPost Tryz.prog Tryz.f52 R .ret a (((w.setCell ⟨g, 0, none⟩ x).setCell ⟨g, 1, none⟩ y).setCell ⟨g, 2, none⟩ z) := by
  rw [set3 w g _ _ _ x y z _ _ hg]
  exact bodyPost_ret (results_cell_row (fr := (0, 0)) rfl _ _ g 67 _ _ hp (setRow_heap _ _ _ _ _ _ hg) Tryz.underlying67 rfl size49) hd hR
theorem byt_at3 (s : ByteArray) (j : Nat) (h : j < s.size) : (s[j]'h).toNat = byt s j := by unfold byt; rw [get_is s j h]
set_option maxRecDepth 100000 in
set_option maxHeartbeats 1000000 in
theorem refLine_any (s : ByteArray) (at_ : Nat) (w : World) (hs : s.size ≤ 1048576) (ha : at_ ≤ s.size) (hp : pre s at_ [47, 47] = true) :
    Calls Tryz.prog 52 #[.string s, .int .i64 at_] w fun e w' => e = .returned (lineV at_ (lineR s at_)) ∧ Below w.heap.size w w' := by
  have h2 := (pre2 s at_ 47 47 ha).1 hp
  have hq1 : at_ + 1 < s.size := by omega
  have hq1I : (at_ : Int) + 1 < (s.size : Int) := by omega
  have htn : ((at_ : Int) + 1).toNat = at_ + 1 := by omega
  have hb1 := byt_at3 s (at_ + 1) hq1
  have h47 : (((s[at_ + 1]'hq1).toNat : Int) == 47) = true := beq_iff_eq.2 (by rw [hb1]; have h := h2.2.2; have e : (47 : UInt8).toNat = 47 := rfl; omega)
  have hnew := heap_alloc_new w (.cells #[.int .i64 0, .int .i64 0, .int .i64 0] 67)
  have hBa := (Below.refl w.heap.size w).alloc (Nat.le_refl _) (.cells #[.int .i64 0, .int .i64 0, .int .i64 0] 67)
  have Hnew := Lib.hid hnew
  have HBa := Lib.hid hBa
  clear hnew hBa hb1 h2 hp
  go_enter Tryz.func52, Tryz.ntmps52
  go_wp2_with fail
  generalize w.alloc (.cells #[.int .i64 0, .int .i64 0, .int .i64 0] 67) = wa at *
  have Hlt := Lib.hid (lt_of_block Hnew.out)
  go_loopg [6, 7] (s.size - at_) (fun g fv iv wr => ∃ q : Nat, at_ ≤ q ∧ q + g = s.size ∧ fv = .bool false ∧ iv = .int .i64 q ∧ lineR s at_ = lineR s q ∧ Below wa.heap.size wa wr)
  case atStart => exact ⟨at_, Nat.le_refl _, by omega, rfl, rfl, rfl, Below.refl _ _⟩
  case round =>
    obtain ⟨q, haq, hqg, rfl, rfl, hE, hBr⟩ := hrel
    have HR := Lib.hid (fun w1 => refRune_any s q w1 (by omega))
    have HBr := Lib.hid hBr
    have Hat := Lib.hid hE
    have hblk := (hBr.block w.heap.size Hlt.out).trans Hnew.out
    have HBk := Lib.hid hblk
    clear hBr hE hblk
    by_cases hq : q < s.size
    · have hqI : (q : Int) < (s.size : Int) := by omega
      have hbq := byt_at3 s q hq
      have hr := runeAt_range s q hq
      have hrb := rune_byte hq 10 (by omega) (by omega)
      have HE := Lib.hid (show lineR s q = if (runeAt s q).1 = 10 then .inr q else if (runeAt s q).1 < 0 then .inl q else lineR s (q + (runeAt s q).2) by rw [lineR, dif_pos hq])
      rw [rn_in hq] at HR
      by_cases h10 : byt s q = 10
      · have e10 : (((s[q]'hq).toNat : Int) == 10) = true := beq_iff_eq.2 (by rw [hbq]; omega)
        have h10' : (runeAt s q).1 = 10 := hrb.2 h10
        have HE2 := Lib.hid (show lineR s q = .inr q by rw [HE.out, if_pos h10'])
        clear h10'
        have c0 := block_cell HBk.out 0
        have c1 := block_cell HBk.out 1
        have c2 := block_cell HBk.out 2
        have f0 := block_free HBk.out 0
        have f1 := block_free HBk.out 1
        have f2 := block_free HBk.out 2
        clear hbq hr hrb h10
        go_wp2_with fail
        exact ret39 _ _ _ _ _ HBk.out rfl rfl ⟨by rw [Hat.out, HE2.out]; simp only [lineV, thV]; rw [Int.ofNat_sub haq]; rfl, below_set3 (HBa.out.trans (HBr.out.mono HBa.out.size)) HBk.out (Nat.le_refl _) _ _ _⟩
      · have e10 : (((s[q]'hq).toNat : Int) == 10) = false := beq_eq_false_iff_ne.2 (by rw [hbq]; omega)
        have h10' : ¬ (runeAt s q).1 = 10 := fun h => h10 (hrb.1 h)
        clear hbq hrb
        by_cases h0 : (runeAt s q).1 < 0
        · have HE2 := Lib.hid (show lineR s q = .inl q by rw [HE.out, if_neg h10', if_pos h0])
          clear h10' h10
          go_wp2_with fail
          refine (HR.out _).mono ?_
          rintro e w1 ⟨rfl, hB1⟩
          have HB := Lib.hid (HBr.out.trans (hB1.mono HBr.out.size))
          have hbk1 := (HB.out.block w.heap.size Hlt.out).trans Hnew.out
          have HBk1 := Lib.hid hbk1
          have c0 := block_cell hbk1 0
          have c1 := block_cell hbk1 1
          have c2 := block_cell hbk1 2
          have f0 := block_free hbk1 0
          have f1 := block_free hbk1 1
          have f2 := block_free hbk1 2
          clear hB1 hbk1
          go_wp2_with fail
          exact ret39 _ _ _ _ _ HBk1.out rfl rfl ⟨by rw [Hat.out, HE2.out]; rfl, below_set3 (HBa.out.trans (HB.out.mono HBa.out.size)) HBk1.out (Nat.le_refl _) _ _ _⟩
        · have HE2 := Lib.hid (show lineR s q = lineR s (q + (runeAt s q).2) by rw [HE.out, if_neg h10', if_neg h0])
          clear h10
          go_wp2_with fail
          refine (HR.out _).mono ?_
          rintro e w1 ⟨rfl, hB1⟩
          have HB := Lib.hid (HBr.out.trans (hB1.mono HBr.out.size))
          have e10' : ((runeAt s q).1 == 10) = false := beq_eq_false_iff_ne.2 h10'
          clear hB1
          go_wp2_with fail
          go_roundg (gk - (runeAt s q).2)
          case measure => omega
          case rel => exact ⟨q + (runeAt s q).2, by omega, by omega, by first | rfl | rw [e10'], by go_num, Hat.out.trans HE2.out, HB.out⟩
    · have HE2 := Lib.hid (show lineR s q = .inr q by rw [lineR, dif_neg hq])
      obtain rfl : q = s.size := by omega
      have c0 := block_cell HBk.out 0
      have c1 := block_cell HBk.out 1
      have c2 := block_cell HBk.out 2
      have f0 := block_free HBk.out 0
      have f1 := block_free HBk.out 1
      have f2 := block_free HBk.out 2
      go_wp2_with fail
      exact ret39 _ _ _ _ _ HBk.out rfl rfl ⟨by rw [Hat.out, HE2.out]; simp only [lineV, thV]; rw [Int.ofNat_sub haq]; rfl, below_set3 (HBa.out.trans (HBr.out.mono HBa.out.size)) HBk.out (Nat.le_refl _) _ _ _⟩
end Go.Proofs.YtejogobhnbjpdaaGreatDoor
