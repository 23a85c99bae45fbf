/- Walks: the reader: span. -/
import Derived.Test.YtaaggfccbbimbaaWa
namespace Go.Proofs.Ytaaggfccbbimbaa
set_option linter.unusedVariables false
open Go.ChangeShapes Go.WideShapes Go.ChangeAt Go.RowKit

def SpanEnd (rb : Nat) (r : Option Sp × List UInt8) (w : World) (e : Ending) (w' : World) : Prop := ∃ a b : Nat, e = .returned (.tuple #[.agg #[.int .u8 a, .int .u8 b], .bool r.1.isSome]) ∧ (∀ s, r.1 = some s → a = s.1.toNat ∧ b = s.2.toNat) ∧ Rd rb r.2 w' ∧ w.grownBy w' (some rb)
theorem spanP_none {l r : List UInt8} (h : endP l = (none, r)) : spanP l = (none, r) := by unfold spanP; rw [h]
theorem spanP_one {l r r2 : List UInt8} {a : UInt8} (h : endP l = (some a, r)) (h2 : isC 45 r = (false, r2)) : spanP l = (some (a, a), r2) := by unfold spanP; rw [h]; simp only; rw [h2]
theorem spanP_two {l r r2 : List UInt8} {a : UInt8} (h : endP l = (some a, r)) (h2 : isC 45 r = (true, r2)) : spanP l = match endP r2 with | (none, r3) => (none, r3) | (some b, r3) => if a ≤ b then (some (a, b), r3) else (none, r3) := by unfold spanP; rw [h]; simp only; rw [h2]; rfl
theorem alloc_keep {w : World} {rb : Nat} {l : List UInt8} {o : Obj} (h : Rd rb l w) : Rd rb l (w.alloc o) := by
  unfold Rd at h ⊢; rw [Below.heap_alloc w o rb (lt_of_block h)]; exact h
theorem grown_cells {w w' : World} {row : Option Nat} {b : Nat} {o : Obj} (hb : w.heap[b]? = some o) (hg : w.grownBy w' row) (hne : some b ≠ row) : w'.heap[b]? = some o := by
  rw [hg.block b (lt_of_block hb) hne, hb]

theorem two_cells {w : World} {b : Nat} {x y : Value} {t : TypeId} (h : w.heap[b]? = some (.cells #[x, y] t (0, 0))) : w.cell? ⟨b, 0, none⟩ = some x ∧ w.cell? ⟨b, 1, none⟩ = some y ∧ w.frozen? ⟨b, 0, none⟩ = false ∧ w.frozen? ⟨b, 1, none⟩ = false :=
  ⟨by rw [block_cell h]; rfl, by rw [block_cell h]; rfl, block_free h 0, block_free h 1⟩
theorem Rd.keep {rb b i : Nat} {l : List UInt8} {w : World} {u : Value} (h : Rd rb l w) (hne : rb ≠ b) : Rd rb l (w.setCell ⟨b, i, none⟩ u) := by
  unfold Rd at h ⊢; rw [Below.heap_setCell w _ u rb hne]; exact h
theorem grow_far {w0 w w' : World} {row : Option Nat} (h : w0.grownBy w row) (b i : Nat) (u : Value) (hb : w0.heap.size ≤ b) : w0.grownBy (w.setCell ⟨b, i, none⟩ u) row :=
  ⟨h.os, h.tape, h.output, by simpa using h.size, fun k hk hn => by rw [Below.heap_setCell w _ u k (by simp only; omega)]; exact h.block k hk hn⟩
set_option maxHeartbeats 400000 in
theorem span_any (rb : Nat) (l : List UInt8) (w : World) (h : Rd rb l w) (hl : l.length ≤ 1099511627776) : Calls Try.prog 19 #[.pointer (some ⟨rb, 0, none⟩)] w (SpanEnd rb (spanP l) w) := by
  have hrb := lt_of_block h
  have hne : rb ≠ w.heap.size := by omega
  have HE := Lib.hid (end_any rb l (w.alloc (.cells #[.int .u8 0, .int .u8 0] 50)) (alloc_keep h) hl)
  have hlen := endP_len l
  have HG0 := Lib.hid (World.grownBy_alloc w (.cells #[.int .u8 0, .int .u8 0] 50) (some rb))
  rcases he : endP l with ⟨o, r⟩
  rw [he] at HE hlen
  simp only at hlen
  clear h
  cases o with
  | none =>
    have Hs := Lib.hid (spanP_none he)
    clear he hlen
    go_enter Try.func19, Try.ntmps19
    go_wp2_with fail
    refine HE.out.mono ?_
    rintro e w1 ⟨b, rfl, hb, hR, hG⟩
    have hn := grown_cells (heap_alloc_new w _) hG (by simp; omega)
    obtain ⟨c0, c1, f0, f1⟩ := two_cells hn
    have HG := Lib.hid (HG0.out.trans hG)
    have HR := Lib.hid hR
    clear hn hG hR hb
    go_wp2_with fail
    rw [Hs.out]
    exact bodyPost_ret (v := .tuple #[.agg #[.int .u8 b, .int .u8 b], .bool false]) (by simp [results, Try.results19, go_sem, c0, c1]) rfl ⟨b, b, rfl, by simp, (HR.out.keep hne).keep hne, grow_far (w' := w) (grow_far (w' := w) HG.out _ _ _ (Nat.le_refl _)) _ _ _ (Nat.le_refl _)⟩
  | some a =>
    have HI := Lib.hid (fun w1 h => is_any rb 45 45 rfl r w1 h (by omega))
    have hlen2 := isC_len 45 r
    rcases h2 : isC 45 r with ⟨d, r2⟩
    rw [h2] at HI hlen2
    simp only at hlen2
    cases d with
    | false =>
      have Hs := Lib.hid (spanP_one he h2)
      clear he hlen h2 hlen2
      go_enter Try.func19, Try.ntmps19
      go_wp2_with fail
      refine HE.out.mono ?_
      rintro e w1 ⟨b, rfl, hb, hR, hG⟩
      obtain rfl := hb a rfl
      have hn := grown_cells (heap_alloc_new w _) hG (by simp; omega)
      have Hn := Lib.hid hn
      have HG := Lib.hid (HG0.out.trans hG)
      have HR := Lib.hid hR
      clear hn hG hR hb
      go_wp2_with fail
      refine (HI.out _ HR.out).mono ?_
      rintro e w2 ⟨rfl, hR2, hG2⟩
      have hn2 := grown_cells Hn.out hG2 (by simp; omega)
      obtain ⟨c0, c1, f0, f1⟩ := two_cells hn2
      have HG2 := Lib.hid (HG.out.trans hG2)
      have HR2 := Lib.hid hR2
      clear hn2 hG2 hR2
      go_wp2_with fail
      rw [Hs.out]
      exact bodyPost_ret (v := .tuple #[.agg #[.int .u8 a.toNat, .int .u8 a.toNat], .bool true]) (by simp [results, Try.results19, go_sem, c0, c1]) rfl ⟨_, _, rfl, by intro s hs; cases hs; exact ⟨rfl, rfl⟩, (HR2.out.keep hne).keep hne, grow_far (w' := w) (grow_far (w' := w) HG2.out _ _ _ (Nat.le_refl _)) _ _ _ (Nat.le_refl _)⟩
    | true =>
      have hs := spanP_two he h2
      have HE2 := Lib.hid (fun w1 h => end_any rb r2 w1 h (by omega))
      rcases he3 : endP r2 with ⟨o3, r3⟩
      rw [he3] at HE2 hs
      cases o3 with
      | none =>
        have Hs := Lib.hid (show spanP l = (none, r3) from hs)
        clear he hlen h2 hlen2 hs he3
        go_enter Try.func19, Try.ntmps19
        go_wp2_with fail
        refine HE.out.mono ?_
        rintro e w1 ⟨b, rfl, hb, hR, hG⟩
        obtain rfl := hb a rfl
        have hn := grown_cells (heap_alloc_new w _) hG (by simp; omega)
        have Hn := Lib.hid hn
        have HG := Lib.hid (HG0.out.trans hG)
        have HR := Lib.hid hR
        clear hn hG hR hb
        go_wp2_with fail
        refine (HI.out _ HR.out).mono ?_
        rintro e w2 ⟨rfl, hR2, hG2⟩
        have Hn2 := Lib.hid (grown_cells Hn.out hG2 (by simp; omega))
        have HG2 := Lib.hid (HG.out.trans hG2)
        have HR2 := Lib.hid hR2
        clear hG2 hR2
        go_wp2_with fail
        refine (HE2.out _ HR2.out).mono ?_
        rintro e w3 ⟨b3, rfl, hb3, hR3, hG3⟩
        have hn3 := grown_cells Hn2.out hG3 (by simp; omega)
        obtain ⟨c0, c1, f0, f1⟩ := two_cells hn3
        have HG3 := Lib.hid (HG2.out.trans hG3)
        have HR3 := Lib.hid hR3
        clear hn3 hG3 hR3 hb3
        go_wp2_with fail
        rw [Hs.out]
        exact bodyPost_ret (v := .tuple #[.agg #[.int .u8 a.toNat, .int .u8 b3], .bool false]) (by simp [results, Try.results19, go_sem, c0, c1]) rfl ⟨_, _, rfl, by simp, (HR3.out.keep hne).keep hne, grow_far (w' := w) (grow_far (w' := w) HG3.out _ _ _ (Nat.le_refl _)) _ _ _ (Nat.le_refl _)⟩
      | some b =>
        have hs2 : spanP l = if a ≤ b then (some (a, b), r3) else (none, r3) := hs
        cases hab : decide ((a.toNat : Int) ≤ (b.toNat : Int)) with
        | true =>
          have hle : a ≤ b := by rw [UInt8.le_iff_toNat_le]; have := of_decide_eq_true hab; omega
          rw [if_pos hle] at hs2
          have Hs := Lib.hid hs2
          clear he hlen h2 hlen2 hs he3 hs2 hle
          go_enter Try.func19, Try.ntmps19
          go_wp2_with fail
          refine HE.out.mono ?_
          rintro e w1 ⟨b1, rfl, hb1, hR, hG⟩
          obtain rfl := hb1 a rfl
          have hn := grown_cells (heap_alloc_new w _) hG (by simp; omega)
          have Hn := Lib.hid hn
          have HG := Lib.hid (HG0.out.trans hG)
          have HR := Lib.hid hR
          clear hn hG hR hb1
          go_wp2_with fail
          refine (HI.out _ HR.out).mono ?_
          rintro e w2 ⟨rfl, hR2, hG2⟩
          have Hn2 := Lib.hid (grown_cells Hn.out hG2 (by simp; omega))
          have HG2 := Lib.hid (HG.out.trans hG2)
          have HR2 := Lib.hid hR2
          clear hG2 hR2
          go_wp2_with fail
          refine (HE2.out _ HR2.out).mono ?_
          rintro e w3 ⟨b3, rfl, hb3, hR3, hG3⟩
          obtain rfl := hb3 b rfl
          have hn3 := grown_cells Hn2.out hG3 (by simp; omega)
          obtain ⟨c0, c1, f0, f1⟩ := two_cells hn3
          have HG3 := Lib.hid (HG2.out.trans hG3)
          have HR3 := Lib.hid hR3
          clear hn3 hG3 hR3 hb3
          go_wp2_with fail
          rw [Hs.out]
          exact bodyPost_ret (v := .tuple #[.agg #[.int .u8 a.toNat, .int .u8 b.toNat], .bool true]) (by simp [results, Try.results19, go_sem, c0, c1]; have := of_decide_eq_true hab; omega) rfl ⟨_, _, rfl, by intro s hs; cases hs; exact ⟨rfl, rfl⟩, (HR3.out.keep hne).keep hne, grow_far (w' := w) (grow_far (w' := w) HG3.out _ _ _ (Nat.le_refl _)) _ _ _ (Nat.le_refl _)⟩
        | false =>
          have hle : ¬ a ≤ b := by rw [UInt8.le_iff_toNat_le]; have := of_decide_eq_false hab; omega
          rw [if_neg hle] at hs2
          have Hs := Lib.hid hs2
          clear he hlen h2 hlen2 hs he3 hs2 hle
          go_enter Try.func19, Try.ntmps19
          go_wp2_with fail
          refine HE.out.mono ?_
          rintro e w1 ⟨b1, rfl, hb1, hR, hG⟩
          obtain rfl := hb1 a rfl
          have hn := grown_cells (heap_alloc_new w _) hG (by simp; omega)
          have Hn := Lib.hid hn
          have HG := Lib.hid (HG0.out.trans hG)
          have HR := Lib.hid hR
          clear hn hG hR hb1
          go_wp2_with fail
          refine (HI.out _ HR.out).mono ?_
          rintro e w2 ⟨rfl, hR2, hG2⟩
          have Hn2 := Lib.hid (grown_cells Hn.out hG2 (by simp; omega))
          have HG2 := Lib.hid (HG.out.trans hG2)
          have HR2 := Lib.hid hR2
          clear hG2 hR2
          go_wp2_with fail
          refine (HE2.out _ HR2.out).mono ?_
          rintro e w3 ⟨b3, rfl, hb3, hR3, hG3⟩
          obtain rfl := hb3 b rfl
          have hn3 := grown_cells Hn2.out hG3 (by simp; omega)
          obtain ⟨c0, c1, f0, f1⟩ := two_cells hn3
          have HG3 := Lib.hid (HG2.out.trans hG3)
          have HR3 := Lib.hid hR3
          clear hn3 hG3 hR3 hb3
          go_wp2_with fail
          rw [Hs.out]
          exact bodyPost_ret (v := .tuple #[.agg #[.int .u8 a.toNat, .int .u8 b.toNat], .bool false]) (by simp [results, Try.results19, go_sem, c0, c1]; have := of_decide_eq_false hab; omega) rfl ⟨_, _, rfl, by simp, (HR3.out.keep hne).keep hne, grow_far (w' := w) (grow_far (w' := w) HG3.out _ _ _ (Nat.le_refl _)) _ _ _ (Nat.le_refl _)⟩
end Go.Proofs.Ytaaggfccbbimbaa
