/- The document's device in memory: its block, the row of its files; At, Good, Free. -/
import Derived.Test.YtfmcemedaehcoaaWv
import Derived.Great.BuildSlice
import Derived.Deep.MidRow
namespace Go.Proofs.Ytfmcemedaehcoaa
set_option linter.unusedVariables false
set_option linter.unusedSimpArgs false
open Go.ChangeShapes Go.WideShapes Go.ChangeAt Go.RowKit Go.ChangeMaps

/-- A file among the document's. -/
def fV (y : Ab) : List Value := [.string y.1, .string (mkB y.2.1), .int .i64 (y.2.2 : Nat)]
theorem fV_len (y : Ab) : (fV y).length = 3 := rfl
theorem fV_size (y : Ab) : (Try.prog.info? 68).map (·.size) = some (fV y).toArray.size := by
  rw [show (fV y).toArray.size = 3 from rfl]; kernel_rfl
theorem fV_info {a b c : Value} : (Try.prog.info? 68).map (·.size) = some [a, b, c].length := by
  rw [show [a, b, c].length = 3 from rfl]; kernel_rfl
theorem fV_all (y : Ab) : (fV y).toArray.all (·.oneCell') = true := by
  rw [Array.all_eq_true_iff_forall_mem]
  intro u hu
  have h : u ∈ fV y := by simpa using hu
  simp only [fV, List.mem_cons, List.not_mem_nil, or_false] at h
  rcases h with rfl | rfl | rfl <;> rfl
theorem fV_one (y : Ab) : ∀ u ∈ fV y, u.oneCell' = true := fun u hu => by
  simp only [fV, List.mem_cons, List.not_mem_nil, or_false] at hu
  rcases hu with rfl | rfl | rfl <;> rfl
theorem eltF : Elt 34 68 3 40 fV := ⟨Try.underlying34, by kernel_rfl, info_elt (by kernel_rfl), by decide, fV_one⟩
def rV (h : Hd) (v : Value) : Array Value := #[v, .int .i64 h.room, .bool h.down, .int .i64 h.acts, .int .i64 h.left, .int .i64 h.keep, .bool h.torn]
/-- The document's device, seen from an elder world: only S was written, and what is new. -/
structure Rd (S : Nat → Prop) (w0 : World) (b : Nat) (h : Hd) (A : List Ab) (w : World) : Prop where
  r : ∃ v, w.heap[b]? = some (.cells (rV h v) 36 (0, 0)) ∧ LAt 3 fV w v A ∧ ∀ g, v.ownBlock = some g → g ≠ b ∧ Gr S w0 w g
  s : Gr S w0 w b
  k : Kept S w0 w
theorem Gr.grow {S : Nat → Prop} {w0 w w' : World} (h : w.heap.size ≤ w'.heap.size) : ∀ k, Gr S w0 w k → Gr S w0 w' k := fun k hk => hk.imp id (fun x => ⟨x.1, by omega⟩)
theorem Kept.step {S : Nat → Prop} {a b c : World} (h : Kept S a b) (k : Below b.heap.size b c) : Kept S a c := h.trans (Kept.of_below k)
theorem Rd.below {S : Nat → Prop} {w0 w w' : World} {b : Nat} {h : Hd} {A : List Ab} (d : Rd S w0 b h A w) (hB : Below w.heap.size w w') : Rd S w0 b h A w' := by
  obtain ⟨v, h1, h2, h3⟩ := d.r
  exact ⟨⟨v, (hB.block b (lt_of_block h1)).trans h1, h2.below hB, fun g hg => ⟨(h3 g hg).1, Gr.grow hB.size g (h3 g hg).2⟩⟩, Gr.grow hB.size b d.s, d.k.step hB⟩
theorem setCell_size (w : World) (a : Addr) (u : Value) : (w.setCell a u).heap.size = w.heap.size := by simp [World.setCell]
theorem LAt.other {w w' : World} {u : Value} {l : List Ab} (h : LAt 3 fV w u l) (hs : w.heap.size ≤ w'.heap.size) (hn : ∀ g, u.ownBlock = some g → w'.heap[g]? = w.heap[g]?) : LAt 3 fV w' u l := by
  refine ⟨h.1, ?_⟩
  rcases h.2 with h | ⟨b, off, cap, rfl, h2, h3, h4, h5⟩
  · exact .inl h
  · exact .inr ⟨b, off, cap, rfl, Nat.lt_of_lt_of_le h2 hs, h3, h4, fun j x hx => (cell_block (hn b rfl)).trans (h5 j x hx)⟩
theorem Kept.cell {S : Nat → Prop} {w0 w : World} (h : Kept S w0 w) {b : Nat} (hb : Gr S w0 w b) (i : Nat) (u : Value) : Kept S w0 (w.setCell ⟨b, i, none⟩ u) := by
  refine ⟨h.os, h.tape, h.output, by rw [setCell_size]; exact h.size, fun k hk hs => ?_⟩
  rw [set_other _ _ _ _ _ (fun e => ?_)]
  · exact h.block k hk hs
  · subst e
    rcases hb with hb | hb
    · exact hs hb
    · omega
/-- A field of the device is written. -/
theorem Rd.set {S : Nat → Prop} {w0 w : World} {b : Nat} {h h' : Hd} {A : List Ab} (d : Rd S w0 b h A w) (i : Nat) (u : Value) (he : ∀ v, (rV h v).setIfInBounds i u = rV h' v) : Rd S w0 b h' A (w.setCell ⟨b, i, none⟩ u) := by
  obtain ⟨v, h1, h2, h3⟩ := d.r
  refine ⟨⟨v, ?_, h2.other (by rw [setCell_size]; exact Nat.le_refl _) (fun g hg => set_other _ _ _ _ _ (h3 g hg).1), fun g hg => ⟨(h3 g hg).1, Gr.grow (by rw [setCell_size]; exact Nat.le_refl _) g (h3 g hg).2⟩⟩, Gr.grow (by rw [setCell_size]; exact Nat.le_refl _) b d.s, d.k.cell d.s i u⟩
  rw [← he v]
  exact block_set h1
/-- The row of the files is put in place of the old one. -/
theorem Rd.row {S : Nat → Prop} {w0 w : World} {b : Nat} {h : Hd} {A A' : List Ab} (d : Rd S w0 b h A w) (v' : Value) (hl : LAt 3 fV w v' A') (hg : ∀ g, v'.ownBlock = some g → g ≠ b ∧ Gr S w0 w g) : Rd S w0 b h A' (w.setCell ⟨b, 0, none⟩ v') := by
  obtain ⟨v, h1, h2, h3⟩ := d.r
  refine ⟨⟨v', ?_, hl.other (by rw [setCell_size]; exact Nat.le_refl _) (fun g hg2 => set_other _ _ _ _ _ (hg g hg2).1), fun g hg2 => ⟨(hg g hg2).1, Gr.grow (by rw [setCell_size]; exact Nat.le_refl _) g (hg g hg2).2⟩⟩, Gr.grow (by rw [setCell_size]; exact Nat.le_refl _) b d.s, d.k.cell d.s 0 v'⟩
  have := block_set (i := 0) (u := v') h1
  exact this
theorem Rd.blk {S : Nat → Prop} {w0 w : World} {b : Nat} {h : Hd} {A : List Ab} (d : Rd S w0 b h A w) : b < w.heap.size := by
  obtain ⟨v, h1, _⟩ := d.r
  exact lt_of_block h1

/-! ### A file taken out of the row into a box -/
structure BoxL (w : World) (B : Nat) (row : List Value) (x : World) : Prop where
  h : x.heap[B]? = some (.cells row.toArray 68 (0, 0))
  b : Below w.heap.size w x
  n : w.heap.size ≤ B
theorem BoxL.below {w x y : World} {B : Nat} {row : List Value} (h : BoxL w B row x) (hB : Below x.heap.size x y) : BoxL w B row y :=
  ⟨(hB.block B (lt_of_block h.h)).trans h.h, h.b.trans (hB.mono h.b.size), h.n⟩
theorem boxL_made (w : World) (old : Array Value) (row : List Value) : BoxL w w.heap.size row ((w.alloc (.cells old 68)).setRow w.heap.size row.toArray) :=
  ⟨setRow_heap _ _ _ _ _ _ (heap_alloc_new w _), below_setRow ((Below.refl _ w).alloc (Nat.le_refl _) _) (Nat.le_refl _) _, Nat.le_refl _⟩
theorem box_absL {ops : Array Oper} {rest : List Oper} {Q : Exit → Act → World → Prop} {a : Act} {wr w' : World} {B : Nat} {row : List Value} (hb : BoxL wr B row w') (h : ∀ w2, BoxL wr B row w2 → wpList Try.prog ops Q rest a w2) : wpList Try.prog ops Q rest a w' := h _ hb
theorem LAt.shape {w : World} {v : Value} {A : List Ab} (h : LAt 3 fV w v A) : ∃ p c, v = .slice p A.length c := by
  rcases h.2 with ⟨p, c, rfl, rfl⟩ | ⟨b, off, cap, rfl, _⟩
  · exact ⟨p, c, rfl⟩
  · exact ⟨_, _, rfl⟩
/-- The cells of the i-th file. -/
theorem LAt.file {w : World} {v : Value} {A : List Ab} (h : LAt 3 fV w v A) {i : Nat} (hi : i < A.length) : ∃ g o c, v = .slice (some ⟨g, o, none⟩) A.length c ∧ g < w.heap.size ∧ A.length ≤ c ∧ w.rangeAt g (o + i * 3) (fV A[i]) ∧ v.ownBlock = some g := by
  rcases h.2 with ⟨p, c, rfl, rfl⟩ | ⟨b, off, cap, rfl, h2, h3, h4, h5⟩
  · simp at hi
  · refine ⟨b, off, cap, rfl, h2, h3, fun j x hx => ?_, rfl⟩
    rw [Nat.add_assoc]
    refine h5 _ x ?_
    rw [LF_at A (fun x _ => fV_len x) i A[i] (by simp [hi]) j (by have := (List.getElem?_eq_some_iff.1 hx).1; rw [fV_len] at this; exact this)]
    exact hx
theorem range_below {w w' : World} {g o : Nat} {cs : List Value} (h : w.rangeAt g o cs) (hB : Below w.heap.size w w') (hg : g < w.heap.size) : w'.rangeAt g o cs := fun j x hx => (hB.cell (p := ⟨g, o + j, none⟩) hg).trans (h j x hx)
theorem toList_ne {x y : ByteArray} (h : x ≠ y) : (x.toList == y.toList) = false := by
  rw [beq_eq_false_iff_ne]
  intro e
  apply h
  rw [Lib.toList_data, Lib.toList_data] at e
  exact ByteArray.ext (Array.toList_inj.1 e)
theorem toList_eq {x y : ByteArray} (h : x = y) : (x.toList == y.toList) = true := by
  subst h; simp
/-- What At answers. -/
def idxN (A : List Ab) (x : ByteArray) : Nat := A.findIdx fun y => decide (y.1 = x)
def idxA (A : List Ab) (x : ByteArray) : Int := if idxN A x < A.length then (idxN A x : Nat) else -1
theorem idxA_none {A : List Ab} {x : ByteArray} (h : ∀ j (hj : j < A.length), A[j].1 ≠ x) : idxA A x = -1 := by
  have : idxN A x = A.length := List.findIdx_eq_length.2 fun y hy => by
    obtain ⟨j, hj, rfl⟩ := List.getElem_of_mem hy
    exact decide_eq_false (h j hj)
  unfold idxA
  rw [if_neg (by omega)]
theorem idxA_some {A : List Ab} {x : ByteArray} {i : Nat} (hi : i < A.length) (he : A[i].1 = x) (h : ∀ j (hj : j < i), A[j].1 ≠ x) : idxA A x = i := by
  have : idxN A x = i := (List.findIdx_eq hi).2 ⟨decide_eq_true he, fun j hj => decide_eq_false (h j hj)⟩
  unfold idxA
  rw [if_pos (by omega), this]
theorem idx_look {A : List Ab} {x : ByteArray} : (idxA A x = -1 ∧ lookA A x = none) ∨ ∃ (i : Nat) (hi : i < A.length), idxA A x = (i : Int) ∧ lookA A x = some A[i] ∧ A[i].1 = x := by
  by_cases h : ∃ (i : Nat) (hi : i < A.length), A[i].1 = x ∧ ∀ j (hj : j < i), A[j].1 ≠ x
  · obtain ⟨i, hi, he, hn⟩ := h
    refine .inr ⟨i, hi, idxA_some hi he hn, ?_, he⟩
    unfold lookA
    rw [List.find?_eq_some_iff_getElem]
    exact ⟨by simpa using he, i, hi, rfl, fun j hj => by simpa using hn j hj⟩
  · have h0 : ∀ j (hj : j < A.length), A[j].1 ≠ x := by
      intro j
      induction j using Nat.strongRecOn with
      | _ j ih =>
        intro hj e
        exact h ⟨j, hj, e, fun k hk => ih k hk (by omega)⟩
    exact .inl ⟨idxA_none h0, List.find?_eq_none.2 fun y hy => by
      obtain ⟨j, hj, rfl⟩ := List.getElem_of_mem hy
      simpa using h0 j hj⟩
set_option maxRecDepth 100000 in
set_option maxHeartbeats 1000000 in
theorem at_any {b : Nat} {h : Hd} {v : Value} {A : List Ab} {w : World} (hb : w.heap[b]? = some (.cells (rV h v) 36 (0, 0))) (hl : LAt 3 fV w v A) (hn : A.length ≤ 1048576) (x : ByteArray) :
    Calls Try.prog 43 #[.pointer (some ⟨b, 0, none⟩), .string x] w fun e w' => e = .returned (.int .i64 (idxA A x)) ∧ Below w.heap.size w w' := by
  obtain ⟨p, c, rfl⟩ := hl.shape
  have c0 : w.cell? ⟨b, 0, none⟩ = some (.slice p A.length c) := block_cell hb 0
  have HL := Lib.hid hl
  clear hl hb
  go_enter Try.func43, Try.ntmps43
  go_wp2_with fail
  go_loopg [5, 12] A.length (fun gg _ vi wr => ∃ i : Nat, vi = .int .i64 i ∧ i + gg = A.length ∧ (∀ j (hj : j < A.length), j < i → A[j].1 ≠ x) ∧ Below w.heap.size w wr)
  case atStart => exact ⟨0, rfl, by omega, fun j _ hj => by omega, Below.refl _ _⟩
  case round =>
    obtain ⟨i, rfl, hig, hne, hB⟩ := hrel
    by_cases hlt : i < A.length
    · have hltI : (i : Int) < (A.length : Nat) := by omega
      obtain ⟨g, o, c', he, hg, hc, hrg, hob⟩ := HL.out.file hlt
      injection he with he1 _ he2
      subst he1 he2
      have Hrg := Lib.hid (range_below hrg hB hg)
      have Hne := Lib.hid (show ∀ j (hj : j < i), A[j].1 ≠ x from fun j hj => hne j (by omega) hj)
      have Hy : Hid (A[i] = A[i]) := Lib.hid rfl
      have Hnx := Lib.hid (fun h : A[i].1 = x => idxA_some hlt h Hne.out)
      have Hnn := Lib.hid (show A[i].1 ≠ x → ∀ j (hj : j < A.length), j < i + 1 → A[j].1 ≠ x from fun h j hj hji => by
        by_cases e : j = i
        · subst e; exact h
        · exact hne j hj (by omega))
      have HB := Lib.hid hB
      generalize A[i] = y at *
      clear hrg hne hB Hne
      by_cases e : y.1 = x
      · have he := toList_eq e
        go_wp2_with (first | (refine wpList_load_mid rfl 68 (.tmp 15) rfl g (o + i * 3) rfl (fV y) _ Hrg.out Try.underlying68 rfl (by rw [fV_len]; kernel_rfl) ?_) | (refine wpList_store_rowTo rfl 68 (.tmp 6) (.tmp 16) rfl rfl wr.heap.size (fV y).toArray rfl rfl 68 _ (heap_alloc_new wr _) (fV_size y) rfl (fV_all y) ?_; refine box_absL (boxL_made wr _ (fV y)) ?_; intro wx hbx; have HBx := Lib.hid hbx; have d0 : wx.cell? ⟨wr.heap.size, 0, none⟩ = some (.string y.1) := block_cell hbx.h 0; clear hbx))
        go_ret
        exact ⟨by rw [Hnx.out e]; rfl, HB.out.trans (HBx.out.b.mono HB.out.size)⟩
      · have he := toList_ne e
        go_wp2_with (first | (refine wpList_load_mid rfl 68 (.tmp 15) rfl g (o + i * 3) rfl (fV y) _ Hrg.out Try.underlying68 rfl (by rw [fV_len]; kernel_rfl) ?_) | (refine wpList_store_rowTo rfl 68 (.tmp 6) (.tmp 16) rfl rfl wr.heap.size (fV y).toArray rfl rfl 68 _ (heap_alloc_new wr _) (fV_size y) rfl (fV_all y) ?_; refine box_absL (boxL_made wr _ (fV y)) ?_; intro wx hbx; have HBx := Lib.hid hbx; have d0 : wx.cell? ⟨wr.heap.size, 0, none⟩ = some (.string y.1) := block_cell hbx.h 0; clear hbx))
        go_roundg (gk - 1)
        case measure => omega
        case rel => exact ⟨i + 1, by go_num, by omega, Hnn.out e, HB.out.trans (HBx.out.b.mono HB.out.size)⟩
    · have hltI : ¬ (i : Int) < (A.length : Nat) := by omega
      go_wp2_with fail
      go_ret
      exact ⟨by rw [idxA_none (fun j hj => hne j hj (by omega))]; rfl, hB⟩
end Go.Proofs.Ytfmcemedaehcoaa
