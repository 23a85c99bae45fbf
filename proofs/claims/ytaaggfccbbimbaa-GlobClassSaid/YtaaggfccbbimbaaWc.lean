/- Walks: the reader: class. -/
import Derived.Test.YtaaggfccbbimbaaWb
import Derived.Deep.AppendLies
namespace Go.Proofs.Ytaaggfccbbimbaa
set_option linter.unusedVariables false
set_option linter.unusedSimpArgs false
open Go.ChangeShapes Go.WideShapes Go.ChangeAt Go.RowKit

theorem Try.info50 : (Try.prog.info? 50).map (fun i => (i.zero, i.size, i.bytes)) = some (some (.agg #[.int .u8 0, .int .u8 0]), 2, 2) := by kernel_rfl
theorem Try.info41 : (Try.prog.info? 41).map (fun i => (i.zero, i.size, i.bytes)) = some (some (.agg #[.bool false, .bool false, .slice none 0 0]), 3, 32) := by kernel_rfl
def flatS (l : List Sp) : List Value := l.flatMap fun x => [.int .u8 x.1.toNat, .int .u8 x.2.toNat]
theorem flatS_app (l : List Sp) (x : Sp) : flatS (l ++ [x]) = flatS l ++ [.int .u8 x.1.toNat, .int .u8 x.2.toNat] := by simp [flatS]
theorem flatS_len (l : List Sp) : (flatS l).length = 2 * l.length := by
  induction l with
  | nil => rfl
  | cons x r ih => simp only [flatS, List.flatMap_cons, List.length_append, List.length_cons, List.length_nil] at ih ⊢; omega
def PieceEnd (rb : Nat) (r : Option Pc × List UInt8) (w : World) (e : Ending) (w' : World) : Prop :=
  ∃ (m n : Bool) (sv : Value), e = .returned (.tuple #[.agg #[.bool m, .bool n, sv], .bool r.1.isSome]) ∧ (∃ p l c, sv = .slice p l c) ∧
    (∀ p, r.1 = some p → m = p.many ∧ n = p.neg ∧ w'.ownsRow w.heap.size 50 2 sv p.spans.length (flatS p.spans)) ∧ (r.1.isSome = true → Rd rb r.2 w') ∧ w.grownBy w' (some rb)
def classR (l : List UInt8) : Option Pc × List UInt8 :=
  match isC 94 l with
  | (neg, r) =>
    match classP (r.length + 1) [] r with
    | (some s, r) => (some ⟨false, neg, s⟩, r)
    | (none, r) => (none, r)
theorem own_shape {w : World} {base : Nat} {e : TypeId} {size : Nat} {v : Value} {n : Nat} {xs : List Value} (h : w.ownsRow base e size v n xs) : ∃ p cap, v = .slice p n cap ∧ n ≤ cap ∧ cap ≤ 9223372036854775807 ∧ (0 < n → ∃ g, p = some ⟨g, 0, none⟩ ∧ base ≤ g) := by
  rcases h.2 with ⟨rfl, rfl⟩ | ⟨g, cap, cur, rfl, hg, _, hc, hm, _⟩
  · exact ⟨none, 0, rfl, by omega, by omega, fun h => by omega⟩
  · unfold maxLen at hm
    exact ⟨_, cap, rfl, hc, by omega, fun _ => ⟨g, rfl, hg⟩⟩
theorem three_cells {w : World} {b : Nat} {x y z : Value} {t : TypeId} (h : w.heap[b]? = some (.cells #[x, y, z] t (0, 0))) : (w.cell? ⟨b, 0, none⟩ = some x ∧ w.cell? ⟨b, 1, none⟩ = some y ∧ w.cell? ⟨b, 2, none⟩ = some z) ∧ w.frozen? ⟨b, 0, none⟩ = false ∧ w.frozen? ⟨b, 1, none⟩ = false ∧ w.frozen? ⟨b, 2, none⟩ = false :=
  ⟨⟨by rw [block_cell h]; rfl, by rw [block_cell h]; rfl, by rw [block_cell h]; rfl⟩, block_free h 0, block_free h 1, block_free h 2⟩
theorem own_ne {w : World} {base rb : Nat} {e : TypeId} {size : Nat} {v : Value} {n : Nat} {xs : List Value} (h : w.ownsRow base e size v n xs) (hb : rb < base) : v.ownBlock = none ∨ v.ownBlock ≠ some rb :=
  .inr fun e => by have := (h.lt rb e).1; omega
theorem heap_new2 (w : World) (X Y : Obj) : ((w.alloc X).alloc Y).heap[w.heap.size + 1]? = some Y := by
  have := heap_alloc_new (w.alloc X) Y
  simpa using this
theorem row_set {w : World} {base b i : Nat} {e : TypeId} {size : Nat} {v u : Value} {n : Nat} {xs : List Value} (h : w.ownsRow base e size v n xs) (hne : v.ownBlock ≠ some b) : (w.setCell ⟨b, i, none⟩ u).ownsRow base e size v n xs :=
  h.kept (grow_set w b i u) (.inr hne)
/-- What is appended to a row of the call's own leaves the rest. -/
theorem grow_row {w0 w w3 : World} {X Y : Obj} {rb : Nat} {e : TypeId} {size : Nat} {v : Value} {n : Nat} {xs : List Value} (h : w0.grownBy w (some rb)) (ho : w.ownsRow w0.heap.size e size v n xs) (hg : ((w.alloc X).alloc Y).grownBy w3 v.ownBlock) : w0.grownBy w3 (some rb) := by
  have h1 := (h.trans (World.grownBy_alloc w X _)).trans (World.grownBy_alloc _ Y _)
  refine ⟨hg.os.trans h1.os, hg.tape.trans h1.tape, hg.output.trans h1.output, Nat.le_trans h1.size hg.size, fun k hk hn => ?_⟩
  rw [hg.block k (Nat.lt_of_lt_of_le hk h1.size) (fun e => by have := (ho.lt k e.symm).1; omega), h1.block k hk hn]
abbrev Z41 : Obj := .cells #[.bool false, .bool false, .slice none 0 0] 41
set_option maxHeartbeats 1000000 in
theorem class_any (rb : Nat) (l : List UInt8) (w : World) (h : Rd rb l w) (hl : l.length ≤ 1048576) : Calls Try.prog 16 #[.pointer (some ⟨rb, 0, none⟩)] w (PieceEnd rb (classR l) w) := by
  obtain ⟨i0, hi, hz0, hz1, hz2⟩ := info_parts Try.info50
  have hrb := lt_of_block h
  have hne : rb ≠ w.heap.size := by omega
  have HI := Lib.hid (is_any rb 94 94 rfl l (w.alloc Z41) (alloc_keep h) (by omega))
  have hlen := isC_len 94 l
  have HG0 := Lib.hid (World.grownBy_alloc w Z41 (some rb))
  have hcr : classR l = match classP ((isC 94 l).2.length + 1) [] (isC 94 l).2 with | (some s, r) => (some ⟨false, (isC 94 l).1, s⟩, r) | (none, r) => (none, r) := rfl
  rcases hi1 : isC 94 l with ⟨neg, r⟩
  rw [hi1] at HI hlen hcr
  simp only at hlen hcr
  generalize hC : classP (r.length + 1) [] r = C at *
  generalize classR l = R at *
  have HR := Lib.hid hcr
  have HC := Lib.hid hC
  clear h hi1 hcr hC
  go_enter Try.func16, Try.ntmps16
  go_wp2_with fail
  refine HI.out.mono ?_
  rintro e w1 ⟨rfl, hR, hG⟩
  have HR1 := Lib.hid hR
  have HG1 := Lib.hid (HG0.out.trans hG)
  have H0 := Lib.hid (grown_cells (heap_alloc_new w _) hG (by simp; omega))
  have hs1 : w.heap.size < w1.heap.size := by have := hG.size; simp at this; omega
  clear hR hG
  go_wp2_with fail
  go_loopg [5, 6] (r.length + 1) (fun g _ _ wr => ∃ (acc : List Sp) (l' : List UInt8) (sv : Value), classP g acc l' = C ∧ l'.length < g ∧ acc.length + l'.length ≤ 1048576 ∧ Rd rb l' wr ∧ wr.heap[w.heap.size]? = some Z41 ∧
    wr.heap[w1.heap.size]? = some (.cells #[.bool false, .bool neg, sv] 41 (0, 0)) ∧ wr.ownsRow w.heap.size 50 2 sv acc.length (flatS acc) ∧ sv.ownBlock ≠ some w1.heap.size ∧ sv.ownBlock ≠ some w.heap.size ∧ w.grownBy wr (some rb))
  case atStart =>
    refine ⟨[], r, .slice none 0 0, HC.out, by omega, by simp; omega, alloc_keep HR1.out, ?_, heap_alloc_new _ _, World.ownsRow_nil _ _ _ _, by simp [Value.ownBlock], by simp [Value.ownBlock], HG1.out.trans (World.grownBy_alloc _ _ _)⟩
    rw [Below.heap_alloc _ _ _ hs1]; exact H0.out
  case round =>
    obtain ⟨acc, l', sv, hcl, hlg, hal, hRd, h0, hp, hown, hn1, hn2, hG⟩ := hrel
    obtain ⟨m, rfl⟩ : ∃ m, gk = m + 1 := ⟨gk - 1, by omega⟩
    have hwz := hG.size
    have hpl := lt_of_block hp
    have HS := Lib.hid (span_any rb l' wr hRd (by omega))
    have hsl := spanP_len l'
    have hcs : classP (m + 1) acc l' = match spanP l' with | (none, r) => (none, r) | (some x, r) => match isC 93 r with | (true, r2) => (some (acc ++ [x]), r2) | (false, r2) => classP m (acc ++ [x]) r2 := rfl
    rw [hcl] at hcs
    rcases hsp : spanP l' with ⟨o, r1⟩
    rw [hsp] at HS hsl hcs
    simp only at hsl hcs
    obtain ⟨psv, csv, rfl, hnc, hcm, hsome⟩ := own_shape hown
    have H0 := Lib.hid h0
    have Hp := Lib.hid hp
    have Hown := Lib.hid hown
    have Hn1 := Lib.hid hn1
    have Hn2 := Lib.hid hn2
    have HG := Lib.hid hG
    cases o with
    | none =>
      have Hcs := Lib.hid hcs
      clear hcl hlg hRd h0 hp hown hn1 hn2 hG hsp hcs hsome
      go_wp2_with fail
      refine HS.out.mono ?_
      rintro e w2 ⟨a, b, rfl, _, hR2, hG2⟩
      have h02 := grown_cells H0.out hG2 (by simp; omega)
      obtain ⟨⟨c0, c1, c2⟩, f0, f1, f2⟩ := three_cells h02
      have HG2 := Lib.hid (HG.out.trans hG2)
      have hw2 : w.heap.size < w2.heap.size := by have := hG2.size; omega
      clear h02 hG2 hR2
      go_wp2_with fail
      refine bodyPost_ret (v := .tuple #[.agg #[.bool false, .bool false, .slice none 0 0], .bool false]) (by simp [results, Try.results16, go_sem, c0, c1, c2, hw2]) rfl ?_
      have hR := HR.out
      rw [Hcs.out] at hR
      rw [hR]
      refine ⟨_, _, _, rfl, ⟨_, _, _, rfl⟩, by simp, by simp, ?_⟩
      exact (grow_far (w' := w) (grow_far (w' := w) (grow_far (w' := w) HG2.out _ _ _ (Nat.le_refl _)) _ _ _ (Nat.le_refl _)) _ _ _ (Nat.le_refl _)).trans (World.grownBy_alloc _ _ _)
    | some x =>
      have hsr := spanP_some hsp
      have HI := Lib.hid (fun w1 h => is_any rb 93 93 rfl r1 w1 h (by omega))
      have hil := isC_len 93 r1
      dsimp only at hcs
      rcases hi3 : isC 93 r1 with ⟨d, r2⟩
      rw [hi3] at HI hil hcs
      simp only at hil hcs
      have Hfa := Lib.hid (flatS_app acc x)
      have Hcs := Lib.hid hcs
      have hacc : acc.length ≤ 1048576 := by omega
      clear hcl hRd h0 hp hown hn1 hn2 hG hsp hcs hsome hi3
      go_wp2_with fail
      refine HS.out.mono ?_
      rintro e w2 ⟨a, b, rfl, hab, hR2, hG2⟩
      obtain ⟨rfl, rfl⟩ := hab x rfl
      have Hw2 := Lib.hid (grown_cells H0.out hG2 (by simp; omega))
      have hp2 := grown_cells Hp.out hG2 (by intro e; injection e with e; omega)
      obtain ⟨⟨c0, c1, c2⟩, f0, f1, f2⟩ := three_cells hp2
      have Hp2 := Lib.hid hp2
      have HG2 := Lib.hid (HG.out.trans hG2)
      have hw2 : w1.heap.size < w2.heap.size := by have := hG2.size; omega
      have Hown2 := Lib.hid (Hown.out.kept hG2 (own_ne Hown.out hrb))
      have HR2 := Lib.hid hR2
      clear hp2 hG2 hR2
      go_wp2_with (at_builtin; go_must (refine wpList_append_lies _ rfl (.tmp 19) (.tmp 21) 39 rfl w.heap.size 50 i0 (.agg #[.int .u8 0, .int .u8 0]) 2 2 Try.underlying39 hi hz0 hz1 hz2 rfl (by decide) (.slice psv acc.length csv) acc.length (flatS acc) rfl ((Hown2.out.alloc _).alloc _) ⟨w2.heap.size + 1, 0, none⟩ 1 1 [.int .u8 x.1.toNat, .int .u8 x.2.toNat] rfl rfl (World.news_of_block (heap_new2 _ _ _)) (by intro u hu; simp at hu; rcases hu with rfl | rfl <;> rfl) (by decide) (by unfold maxLen; omega) (by omega) (by simp; omega) (w2.heap.size + 2) (by simp) ?_; intro g3 cap3 w3 hown3 hgrow3 hat3 hlt3; have Hat3 := Lib.hid hat3; have Hown3 := Lib.hid hown3; have Hgrow3 := Lib.hid hgrow3; have hp3 := grown_cells (grown_cells (grown_cells Hp2.out (World.grownBy_alloc w2 _ none) (by simp)) (World.grownBy_alloc _ _ none) (by simp)) hgrow3 (fun e => Hn1.out e.symm); have hr3 : Rd rb r1 w3 := grown_cells (alloc_keep (alloc_keep HR2.out)) hgrow3 (fun e => (own_ne Hown2.out hrb).elim (fun h => by rw [h] at e; cases e) (fun h => h e.symm)); have h03 := grown_cells (grown_cells (grown_cells Hw2.out (World.grownBy_alloc w2 _ none) (by simp)) (World.grownBy_alloc _ _ none) (by simp)) hgrow3 (fun e => Hn2.out e.symm); have Hr3 := Lib.hid hr3; have Hp3 := Lib.hid hp3; have H03 := Lib.hid h03; have hc3 := (three_cells hp3).1.2.2; have hf3 := (three_cells hp3).2.2.2; clear hown3 hgrow3 hat3 hp3 hr3 h03))
      have hn3 : (Value.slice (some ⟨g3, 0, none⟩) (acc.length + 1) cap3).ownBlock ≠ some w1.heap.size := by
        intro e
        have e2 : g3 = w1.heap.size := by simpa [Value.ownBlock] using e
        rcases Hat3.out with h | h
        · exact Hn1.out (h.trans (by rw [e2]))
        · omega
      have hn30 : (Value.slice (some ⟨g3, 0, none⟩) (acc.length + 1) cap3).ownBlock ≠ some w.heap.size := by
        intro e
        have e2 : g3 = w.heap.size := by simpa [Value.ownBlock] using e
        rcases Hat3.out with h | h
        · exact Hn2.out (h.trans (by rw [e2]))
        · omega
      have hR4 : Rd rb r1 (w3.setCell ⟨w1.heap.size, 2, none⟩ (.slice (some ⟨g3, 0, none⟩) (acc.length + 1) cap3)) := Hr3.out.keep (by omega)
      have hp4 : (w3.setCell ⟨w1.heap.size, 2, none⟩ (.slice (some ⟨g3, 0, none⟩) (acc.length + 1) cap3)).heap[w1.heap.size]? = some (.cells #[.bool false, .bool neg, (.slice (some ⟨g3, 0, none⟩) (acc.length + 1) cap3)] 41 (0, 0)) := block_set Hp3.out
      have h04 : (w3.setCell ⟨w1.heap.size, 2, none⟩ (.slice (some ⟨g3, 0, none⟩) (acc.length + 1) cap3)).heap[w.heap.size]? = some Z41 := by rw [Below.heap_setCell _ _ _ _ (by simp only; omega)]; exact H03.out
      have hown4 : (w3.setCell ⟨w1.heap.size, 2, none⟩ (.slice (some ⟨g3, 0, none⟩) (acc.length + 1) cap3)).ownsRow w.heap.size 50 2 (.slice (some ⟨g3, 0, none⟩) (acc.length + 1) cap3) (acc.length + 1) (flatS (acc ++ [x])) := by rw [Hfa.out]; exact row_set Hown3.out hn3
      have hG4 : w.grownBy (w3.setCell ⟨w1.heap.size, 2, none⟩ (.slice (some ⟨g3, 0, none⟩) (acc.length + 1) cap3)) (some rb) := grow_far (w' := w) (grow_row HG2.out Hown2.out Hgrow3.out) _ _ _ (by omega)
      have HR4 := Lib.hid hR4
      have Hp4 := Lib.hid hp4
      have H04 := Lib.hid h04
      have Hown4 := Lib.hid hown4
      have HG4 := Lib.hid hG4
      have Hn3 := Lib.hid hn3
      have Hn30 := Lib.hid hn30
      have hw4 : w1.heap.size < (w3.setCell ⟨w1.heap.size, 2, none⟩ (.slice (some ⟨g3, 0, none⟩) (acc.length + 1) cap3)).heap.size := lt_of_block hp4
      clear hR4 hp4 h04 hown4 hG4 hn3 hn30 hc3 hf3 Hr3 Hp3 H03 Hown3 Hgrow3 Hat3
      generalize w3.setCell ⟨w1.heap.size, 2, none⟩ (.slice (some ⟨g3, 0, none⟩) (acc.length + 1) cap3) = w4 at *
      refine (HI.out _ HR4.out).mono ?_
      rintro e w5 ⟨rfl, hR5, hG5⟩
      have hp5 := grown_cells Hp4.out hG5 (by intro e; injection e with e; omega)
      have h05 := grown_cells H04.out hG5 (by intro e; injection e with e; omega)
      have hown5 := Hown4.out.kept hG5 (own_ne Hown4.out hrb)
      have HG5 := Lib.hid (HG4.out.trans hG5)
      have HR5 := Lib.hid hR5
      have Hp5 := Lib.hid hp5
      have H05 := Lib.hid h05
      have Hown5 := Lib.hid hown5
      obtain ⟨⟨p0, p1, p2⟩, _, _, _⟩ := three_cells hp5
      obtain ⟨⟨q0, q1, q2⟩, g0, g1, g2⟩ := three_cells h05
      clear hR5 hG5 hp5 h05 hown5
      cases d with
      | false =>
        go_wp2_with fail
        go_roundg m
        case measure => omega
        case rel => exact ⟨acc ++ [x], r2, (.slice (some ⟨g3, 0, none⟩) (acc.length + 1) cap3), by rw [Hcs.out], by omega, by simp; omega, HR5.out, H05.out, Hp5.out, by simpa using Hown5.out, Hn3.out, Hn30.out, HG5.out⟩
      | true =>
        go_wp2_with fail
        refine bodyPost_ret (v := .tuple #[.agg #[.bool false, .bool neg, (.slice (some ⟨g3, 0, none⟩) (acc.length + 1) cap3)], .bool true]) (by simp [results, Try.results16, go_sem, p0, p1, p2, q0, q1, q2, hs1]) rfl ?_
        have hR := HR.out
        rw [Hcs.out] at hR
        rw [hR]
        refine ⟨false, neg, (.slice (some ⟨g3, 0, none⟩) (acc.length + 1) cap3), rfl, ⟨_, _, _, rfl⟩, ?_, ?_, ?_⟩
        · intro p hp
          cases hp
          exact ⟨rfl, rfl, by simpa using row_set (row_set (row_set Hown5.out Hn30.out) Hn30.out) Hn30.out⟩
        · intro _
          exact ((HR5.out.keep hne).keep hne).keep hne
        · exact grow_far (w' := w) (grow_far (w' := w) (grow_far (w' := w) HG5.out _ _ _ (Nat.le_refl _)) _ _ _ (Nat.le_refl _)) _ _ _ (Nat.le_refl _)
end Go.Proofs.Ytaaggfccbbimbaa
