/- Walks: the reader: piece. -/
import Derived.Test.YtaaggfccbbimbaaWc
import Derived.Deep.Onto
namespace Go.Proofs.Ytaaggfccbbimbaa
set_option linter.unusedVariables false
set_option linter.unusedSimpArgs false
open Go.ChangeShapes Go.WideShapes Go.ChangeAt Go.RowKit

theorem isC_1 {c : UInt8} {l r : List UInt8} (h : isC c l = (false, r)) : r = l := (isC_false h).1
theorem pieceP_star {l r : List UInt8} (h : isC 42 l = (true, r)) : pieceP l = (some ⟨true, true, []⟩, r) := by unfold pieceP; rw [h]
theorem pieceP_any {l r : List UInt8} (h : isC 42 l = (false, l)) (h2 : isC 63 l = (true, r)) : pieceP l = (some ⟨false, true, []⟩, r) := by unfold pieceP; rw [h]; simp only; rw [h2]
theorem pieceP_class {l r : List UInt8} (h : isC 42 l = (false, l)) (h2 : isC 63 l = (false, l)) (h3 : isC 91 l = (true, r)) : pieceP l = classR r := by unfold pieceP; rw [h]; simp only; rw [h2]; simp only; rw [h3]; rfl
theorem pieceP_sign {l : List UInt8} (h : isC 42 l = (false, l)) (h2 : isC 63 l = (false, l)) (h3 : isC 91 l = (false, l)) : pieceP l = match signP l with | (some b, r) => (some ⟨false, false, [(b, b)]⟩, r) | (none, r) => (none, r) := by unfold pieceP; rw [h]; simp only; rw [h2]; simp only; rw [h3]; rfl
theorem far3 {w0 w : World} {row : Option Nat} {x y z : Value} (h : w0.grownBy w row) : w0.grownBy (((w.setCell ⟨w0.heap.size, 0, none⟩ x).setCell ⟨w0.heap.size, 1, none⟩ y).setCell ⟨w0.heap.size, 2, none⟩ z) row :=
  grow_far (w' := w0) (grow_far (w' := w0) (grow_far (w' := w0) h _ _ _ (Nat.le_refl _)) _ _ _ (Nat.le_refl _)) _ _ _ (Nat.le_refl _)
theorem Rd.keep3 {rb b : Nat} {l : List UInt8} {w : World} {x y z : Value} (h : Rd rb l w) (hne : rb ≠ b) : Rd rb l (((w.setCell ⟨b, 0, none⟩ x).setCell ⟨b, 1, none⟩ y).setCell ⟨b, 2, none⟩ z) := ((h.keep hne).keep hne).keep hne

set_option maxHeartbeats 1000000 in
theorem piece_any (rb : Nat) (l : List UInt8) (w : World) (h : Rd rb l w) (hl : l.length ≤ 1048576) : Calls Try.prog 12 #[.pointer (some ⟨rb, 0, none⟩)] w (PieceEnd rb (pieceP l) w) := by
  have hrb := lt_of_block h
  have hne : rb ≠ w.heap.size := by omega
  have HI := Lib.hid (is_any rb 42 42 rfl l (w.alloc Z41) (alloc_keep h) (by omega))
  have HG0 := Lib.hid (World.grownBy_alloc w Z41 (some rb))
  rcases h1 : isC 42 l with ⟨d, r⟩
  rw [h1] at HI
  clear h
  cases d with
  | true =>
    have Hp := Lib.hid (pieceP_star h1)
    generalize pieceP l = R at *
    clear h1
    go_enter Try.func12, Try.ntmps12
    go_wp2_with fail
    refine HI.out.mono ?_
    rintro e w1 ⟨rfl, hR, hG⟩
    have h0 := grown_cells (heap_alloc_new w _) hG (by simp; omega)
    have hz1 : w.heap.size < w1.heap.size := by have := hG.size; simp at this; omega
    obtain ⟨⟨c0, c1, c2⟩, f0, f1, f2⟩ := three_cells h0
    have HG := Lib.hid (HG0.out.trans hG)
    have HR := Lib.hid hR
    clear h0 hG hR
    go_wp2_with fail
    refine bodyPost_ret (v := .tuple #[.agg #[.bool true, .bool true, .slice none 0 0], .bool true]) (by simp [results, Try.results12, go_sem, c0, c1, c2, hz1]) rfl ?_
    rw [Hp.out]
    refine ⟨true, true, _, rfl, ⟨_, _, _, rfl⟩, ?_, fun _ => HR.out.keep3 hne, far3 HG.out⟩
    intro p hp; cases hp; exact ⟨rfl, rfl, World.ownsRow_nil _ _ _ _⟩
  | false =>
    obtain rfl := isC_1 h1
    have HI2 := Lib.hid (fun w1 h => is_any rb 63 63 rfl r w1 h (by omega))
    rcases h2 : isC 63 r with ⟨d, r2⟩
    rw [h2] at HI2
    cases d with
    | true =>
      have Hp := Lib.hid (pieceP_any h1 h2)
      generalize pieceP r = R at *
      clear h1 h2
      go_enter Try.func12, Try.ntmps12
      go_wp2_with fail
      refine HI.out.mono ?_
      rintro e w1 ⟨rfl, hR, hG⟩
      have HR := Lib.hid hR
      have H1 := Lib.hid (grown_cells (heap_alloc_new w _) hG (by simp; omega))
      have HG := Lib.hid (HG0.out.trans hG)
      have hz1 : w.heap.size < w1.heap.size := by have := hG.size; simp at this; omega
      clear hR hG
      go_wp2_with fail
      refine (HI2.out _ HR.out).mono ?_
      rintro e w2 ⟨rfl, hR2, hG2⟩
      have h0 := grown_cells H1.out hG2 (by simp; omega)
      have hz2 : w.heap.size < w2.heap.size := by have := hG2.size; omega
      obtain ⟨⟨c0, c1, c2⟩, f0, f1, f2⟩ := three_cells h0
      have HG2 := Lib.hid (HG.out.trans hG2)
      have HR2 := Lib.hid hR2
      clear h0 hG2 hR2
      go_wp2_with fail
      refine bodyPost_ret (v := .tuple #[.agg #[.bool false, .bool true, .slice none 0 0], .bool true]) (by simp [results, Try.results12, go_sem, c0, c1, c2, hz2]) rfl ?_
      rw [Hp.out]
      refine ⟨false, true, _, rfl, ⟨_, _, _, rfl⟩, ?_, fun _ => HR2.out.keep3 hne, far3 HG2.out⟩
      intro p hp; cases hp; exact ⟨rfl, rfl, World.ownsRow_nil _ _ _ _⟩
    | false =>
      obtain rfl := isC_1 h2
      have HI3 := Lib.hid (fun w1 h => is_any rb 91 91 rfl r2 w1 h (by omega))
      rcases h3 : isC 91 r2 with ⟨d, r3⟩
      rw [h3] at HI3
      cases d with
      | true =>
        have hl3 : r3.length ≤ 1048576 := by have := isC_len 91 r2; rw [h3] at this; simp at this; omega
        have Hp := Lib.hid (pieceP_class h1 h2 h3)
        have HC := Lib.hid (fun w1 h => class_any rb r3 w1 h hl3)
        generalize pieceP r2 = R at *
        generalize hcr : classR r3 = CR at *
        clear h1 h2 h3 hcr
        go_enter Try.func12, Try.ntmps12
        go_wp2_with fail
        refine HI.out.mono ?_
        rintro e w1 ⟨rfl, hR, hG⟩
        have HR := Lib.hid hR
        have H1 := Lib.hid (grown_cells (heap_alloc_new w _) hG (by simp; omega))
        have HG := Lib.hid (HG0.out.trans hG)
        clear hR hG
        go_wp2_with fail
        refine (HI2.out _ HR.out).mono ?_
        rintro e w2 ⟨rfl, hR2, hG2⟩
        have H2 := Lib.hid (grown_cells H1.out hG2 (by simp; omega))
        have HG2 := Lib.hid (HG.out.trans hG2)
        have HR2 := Lib.hid hR2
        clear hR2 hG2
        go_wp2_with fail
        refine (HI3.out _ HR2.out).mono ?_
        rintro e w3 ⟨rfl, hR3, hG3⟩
        have H3 := Lib.hid (grown_cells H2.out hG3 (by simp; omega))
        have hz3 := lt_of_block H3.out
        have HG3 := Lib.hid (HG2.out.trans hG3)
        have HR3 := Lib.hid hR3
        clear hR3 hG3
        go_wp2_with fail
        refine (HC.out _ HR3.out).mono ?_
        rintro e w4 ⟨m, n, sv, rfl, ⟨ps, ls, cs, rfl⟩, hok, hrd, hG4⟩
        have h4 := grown_cells H3.out hG4 (by simp; omega)
        have hz4 := lt_of_block h4
        obtain ⟨⟨c0, c1, c2⟩, f0, f1, f2⟩ := three_cells h4
        have HG4 := Lib.hid (HG3.out.trans hG4)
        have Hok := Lib.hid hok
        have Hrd := Lib.hid hrd
        clear h4 hG4 hok hrd
        obtain ⟨ok, hok⟩ : ∃ ok, CR.1.isSome = ok := ⟨_, rfl⟩
        rw [hok]
        have Hoks := Lib.hid hok
        clear hok
        go_wp2_with fail
        refine bodyPost_ret (v := .tuple #[.agg #[.bool m, .bool n, .slice ps ls cs], .bool ok]) (by simp [results, Try.results12, go_sem, c0, c1, c2, hz4]) rfl ?_
        rw [Hp.out]
        refine ⟨m, n, _, by rw [Hoks.out], ⟨_, _, _, rfl⟩, ?_, fun h => (Hrd.out h).keep3 hne, far3 HG4.out⟩
        intro p hp
        obtain ⟨e1, e2, e3⟩ := Hok.out p hp
        have hnb : (Value.slice ps ls cs).ownBlock ≠ some w.heap.size := fun e => by have := (e3.lt _ e).1; omega
        exact ⟨e1, e2, (row_set (row_set (row_set e3 hnb) hnb) hnb).mono (by omega)⟩
      | false =>
        obtain rfl := isC_1 h3
        have Hp := Lib.hid (pieceP_sign h1 h2 h3)
        have HS := Lib.hid (fun w1 h => sign_any rb r3 w1 h (by omega))
        generalize pieceP r3 = R at *
        generalize hsr : signP r3 = SR at *
        clear h1 h2 h3 hsr
        go_enter Try.func12, Try.ntmps12
        go_wp2_with fail
        refine HI.out.mono ?_
        rintro e w1 ⟨rfl, hR, hG⟩
        have HR := Lib.hid hR
        have H1 := Lib.hid (grown_cells (heap_alloc_new w _) hG (by simp; omega))
        have HG := Lib.hid (HG0.out.trans hG)
        clear hR hG
        go_wp2_with fail
        refine (HI2.out _ HR.out).mono ?_
        rintro e w2 ⟨rfl, hR2, hG2⟩
        have H2 := Lib.hid (grown_cells H1.out hG2 (by simp; omega))
        have HG2 := Lib.hid (HG.out.trans hG2)
        have HR2 := Lib.hid hR2
        clear hR2 hG2
        go_wp2_with fail
        refine (HI3.out _ HR2.out).mono ?_
        rintro e w3 ⟨rfl, hR3, hG3⟩
        have H3 := Lib.hid (grown_cells H2.out hG3 (by simp; omega))
        have HG3 := Lib.hid (HG2.out.trans hG3)
        have HR3 := Lib.hid hR3
        clear hR3 hG3
        go_wp2_with fail
        refine (HS.out _ HR3.out).mono ?_
        rintro e w4 ⟨b, rfl, hb, hR4, hG4⟩
        have h4 := grown_cells H3.out hG4 (by simp; omega)
        have hz4 := lt_of_block h4
        obtain ⟨⟨c0, c1, c2⟩, f0, f1, f2⟩ := three_cells h4
        have HG4 := Lib.hid (HG3.out.trans hG4)
        have Hb := Lib.hid hb
        have HR4 := Lib.hid hR4
        clear h4 hG4 hb hR4
        obtain ⟨ok, hok⟩ : ∃ ok, SR.1.isSome = ok := ⟨_, rfl⟩
        rw [hok]
        have Hoks := Lib.hid hok
        clear hok
        go_wp2_with fail
        refine bodyPost_ret (v := .tuple #[.agg #[.bool false, .bool false, .slice (some ⟨w4.heap.size, 0, none⟩) 1 1], .bool ok]) (by simp [results, Try.results12, go_sem, c0, c1, c2, hz4]) rfl ?_
        rw [Hp.out]
        rcases SR with ⟨_ | c, r4⟩
        · refine ⟨false, false, _, by rw [← Hoks.out]; rfl, ⟨_, _, _, rfl⟩, by simp, by simp, (far3 HG4.out).trans (World.grownBy_alloc _ _ _)⟩
        · obtain rfl := Hb.out c rfl
          refine ⟨false, false, _, by rw [← Hoks.out]; rfl, ⟨_, _, _, rfl⟩, ?_, fun _ => alloc_keep (HR4.out.keep3 hne), (far3 HG4.out).trans (World.grownBy_alloc _ _ _)⟩
          intro p hp
          cases hp
          refine ⟨rfl, rfl, ?_⟩
          have := World.ownsRow_lit (base := w.heap.size) (e := 50) (size := 2) (((w4.setCell ⟨w.heap.size, 0, none⟩ (.bool false)).setCell ⟨w.heap.size, 1, none⟩ (.bool false)).setCell ⟨w.heap.size, 2, none⟩ (.slice (some ⟨w4.heap.size, 0, none⟩) 1 1)) #[.int .u8 c.toNat, .int .u8 c.toNat] 1 (by simp; omega) (by decide) rfl
          rw [show (((w4.setCell ⟨w.heap.size, 0, none⟩ (.bool false)).setCell ⟨w.heap.size, 1, none⟩ (.bool false)).setCell ⟨w.heap.size, 2, none⟩ (.slice (some ⟨w4.heap.size, 0, none⟩) 1 1)).heap.size = w4.heap.size by simp] at this
          exact this
end Go.Proofs.Ytaaggfccbbimbaa
