/- Walks: the reader of a beginning; the token that stands next; how it is taken; Walks: whether a token stands next; if so, it is taken; A file's beginning, as a function of its tokens; Walks: the package clause; Walks: one import; Walks: the imports; Walks: all imports; a file's beginning. -/
import Derived.Test.YtejogobhnbjpdaaDoorKl
import Derived.Deep.CutRange
import Derived.Deep.MidRow
import Derived.Deep.DeepCutAuto
namespace Go.Proofs.YtejogobhnbjpdaaDoor
set_option linter.unusedVariables false
set_option linter.unusedSimpArgs false
open Go.ChangeShapes Go.WideShapes Go.ChangeAt Go.RowKit

/-- An import: its name, its path, its place. -/
abbrev Im := ByteArray × ByteArray × Nat
def imV (t : Im) : List Value := [.string t.1, .string t.2.1, .int .i64 t.2.2]
theorem imV_len (t : Im) : (imV t).length = 3 := rfl
theorem imV_one : ∀ (x : Im), ∀ u ∈ imV x, u.oneCell' = true := fun x u hu => by
  simp only [imV, List.mem_cons, List.not_mem_nil, or_false] at hu
  rcases hu with rfl | rfl | rfl <;> rfl
theorem eltI : Elt 39 44 3 40 imV := ⟨Tryd.underlying39, by kernel_rfl, info_elt (by kernel_rfl), by decide, imV_one⟩
/-- A reader at b: tokens that lie in an elder block, a place, the imports that were met. -/
structure Rd (b : Nat) (T : List Tk) (at_ : Nat) (I : List Im) (iv : Value) (w : World) : Prop where
  f : ∃ g off cap, w.heap[b]? = some (.cells #[.slice (some ⟨g, off, none⟩) T.length cap, .int .i64 at_, iv] 59 (0, 0)) ∧ g < b ∧
    LAt 3 tkV w (.slice (some ⟨g, off, none⟩) T.length cap) T ∧ w.ownsRow (b + 1) 44 3 iv I.length (LF imV I)
theorem Rd.below {b at_ : Nat} {T : List Tk} {I : List Im} {iv : Value} {w w' : World} (h : Rd b T at_ I iv w) (hB : Below w.heap.size w w') : Rd b T at_ I iv w' := by
  obtain ⟨g, off, cap, h1, h2, h3, h4⟩ := h.f
  exact ⟨g, off, cap, (hB.block _ (lt_of_block h1)).trans h1, h2, h3.below hB, gen_own_below h4 hB⟩
theorem Rd.lt {b at_ : Nat} {T : List Tk} {I : List Im} {iv : Value} {w : World} (h : Rd b T at_ I iv w) : b < w.heap.size := by
  obtain ⟨g, off, cap, h1, _⟩ := h.f; exact lt_of_block h1
theorem LAt.under {n : Nat} {X : Type} {fl : X → List Value} {w w' : World} {g off b : Nat} {len cap : Nat} {l : List X} (h : LAt n fl w (.slice (some ⟨g, off, none⟩) len cap) l) (hg : g < b) (hb : b ≤ w.heap.size) (hB : Below b w w') : LAt n fl w' (.slice (some ⟨g, off, none⟩) len cap) l := by
  refine ⟨h.1, ?_⟩
  rcases h.2 with h | ⟨b', off', cap', hv, h2, h3, h4, h5⟩
  · exact .inl h
  · injection hv with hv1 hv2 hv3
    injection hv1 with hv1
    injection hv1 with hv4 hv5
    subst hv4; subst hv5; subst hv2; subst hv3
    exact .inr ⟨_, _, _, rfl, Nat.lt_of_lt_of_le h2 hB.size, h3, h4, fun j x hx => (hB.cell (p := ⟨g, off + j, none⟩) hg).trans (h5 j x hx)⟩
/-- Nothing that was there turns but block b. -/
structure One (b : Nat) (w w' : World) : Prop where
  low : ∀ n, n ≤ b → n ≤ w.heap.size → Below n w w'
  size : w.heap.size ≤ w'.heap.size
  block : ∀ k, k ≠ b → k < w.heap.size → w'.heap[k]? = w.heap[k]?
theorem One.of {b : Nat} {w w' : World} (h : Below w.heap.size w w') : One b w w' := ⟨fun n _ h1 => h.mono h1, h.size, fun k _ hk => h.block k hk⟩
theorem One.trans {b : Nat} {w1 w2 w3 : World} (h : One b w1 w2) (k : One b w2 w3) : One b w1 w3 :=
  ⟨fun n h1 h2 => (h.low n h1 h2).trans (k.low n h1 (Nat.le_trans h2 h.size)), Nat.le_trans h.size k.size, fun j hj hl => (k.block j hj (Nat.lt_of_lt_of_le hl h.size)).trans (h.block j hj hl)⟩
theorem One.lo {b : Nat} {w w' : World} (h : One b w w') (hb : b ≤ w.heap.size) : Below b w w'   := h.low b (Nat.le_refl _) hb
theorem One.set {b i : Nat} {w : World} {v : Value} : One b w (w.setCell ⟨b, i, none⟩ v) := by
  refine ⟨fun n h1 _ => (Below.refl n w).setCell (p := ⟨b, i, none⟩) h1 _, by simp [World.setCell], fun k hk hl => ?_⟩
  show (w.heap.modify b _)[k]? = _
  rw [Array.getElem?_modify]
  rw [if_neg (fun e => hk e.symm)]
theorem Rd.setAt {b at_ e : Nat} {T : List Tk} {I : List Im} {iv : Value} {w : World} (h : Rd b T at_ I iv w) : Rd b T e I iv (w.setCell ⟨b, 1, none⟩ (.int .i64 e)) ∧ One b w (w.setCell ⟨b, 1, none⟩ (.int .i64 e)) := by
  obtain ⟨g, off, cap, h1, h2, h3, h4⟩ := h.f
  have hB : Below b w (w.setCell ⟨b, 1, none⟩ (.int .i64 e)) := (Below.refl b w).setCell (p := ⟨b, 1, none⟩) (Nat.le_refl b) _
  refine ⟨⟨g, off, cap, ?_, h2, h3.under h2 (Nat.le_of_lt (lt_of_block h1)) hB, ownsRow_setCell_below h4 (by show b < b + 1; omega) _⟩, One.set⟩
  have h := block_set (i := 1) (u := .int .i64 e) h1
  simpa using h
theorem set3r (w : World) (g : Nat) (a b c x y z : Value) (t : TypeId) (fr : Nat × Nat) (hg : w.heap[g]? = some (.cells #[a, b, c] t fr)) :
    ((w.setCell ⟨g, 0, none⟩ x).setCell ⟨g, 1, none⟩ y).setCell ⟨g, 2, none⟩ z = w.setRow g #[x, y, z] := by
  rw [setCell_eq_setRow w g 0 _ t fr x hg, setCell_eq_setRow _ g 1 _ t fr y (setRow_heap _ _ _ _ _ _ hg), setRow_setRow,
    setCell_eq_setRow _ g 2 _ t fr z (setRow_heap _ _ _ _ _ _ hg), setRow_setRow]
  rfl
theorem size31 : (Tryd.prog.info? 31).map (·.size) = some 3 := by as_aux_lemma => kernel_rfl
theorem ret32 {R : Ending → World → Prop} {a : Act} (w : World) (g : Nat) (p q r x y z : Value) (hg : w.heap[g]? = some (.cells #[p, q, r] 31 (0, 0)))
    (hp : a.tmps.getD 2 undef = .pointer (some ⟨g, 0, none⟩)) (hd : a.defers = []) (hR : R (.returned (.agg #[x, y, z])) (w.setRow g #[x, y, z]).drew) :
    bodyPost Tryd.prog Tryd.f32 R .ret a (((w.setCell ⟨g, 0, none⟩ x).setCell ⟨g, 1, none⟩ y).setCell ⟨g, 2, none⟩ z).drew := by
  rw [set3r w g _ _ _ x y z _ _ hg]
  exact bodyPost_ret (results_cell_row (fr := (0, 0)) rfl _ _ g 31 _ _ hp (show (w.setRow g #[x, y, z]).drew.heap[g]? = _ from setRow_heap _ _ _ _ _ _ hg) Tryd.underlying31 rfl size31) hd hR
theorem below_row {B g : Nat} {w0 w : World} {p q r : Value} {t : TypeId} (hb : Below B w0 w) (hg : w.heap[g]? = some (.cells #[p, q, r] t (0, 0))) (h : B ≤ g) (x y z : Value) : Below B w0 (w.setRow g #[x, y, z]) := by
  rw [← set3r w g _ _ _ x y z _ _ hg]
  exact ((Below.setCell hb (p := ⟨g, 0, none⟩) h _).setCell (p := ⟨g, 1, none⟩) h _).setCell (p := ⟨g, 2, none⟩) h _
def tkA (x : Tk) : Value := .agg #[.int .i64 x.1, .string x.2.1, .int .i64 x.2.2]
set_option maxRecDepth 100000 in
set_option maxHeartbeats 1000000 in
theorem now_any (b : Nat) (T : List Tk) (at_ : Nat) (I : List Im) (iv : Value) (w : World) (x : Tk) (h : Rd b T at_ I iv w) (hx : T[at_]? = some x) :
    Calls Tryd.prog 32 #[.pointer (some ⟨b, 0, none⟩)] w fun e w' => e = .returned (tkA x) ∧ Below w.heap.size w w' := by
  obtain ⟨g, off, cap, h1, h2, h3, h4⟩ := h.f
  obtain ⟨k, y, p⟩ := x
  obtain ⟨hg, e0, e1, e2⟩ := h3.cells hx
  have hat := (List.getElem?_eq_some_iff.1 hx).1
  have hatI : (at_ : Int) < (T.length : Int) := by omega
  have hnew := heap_alloc_new w (.cells #[.int .i64 0, .string ⟨#[]⟩, .int .i64 0] 31)
  have hBa := (Below.refl w.heap.size w).alloc (Nat.le_refl _) (.cells #[.int .i64 0, .string ⟨#[]⟩, .int .i64 0] 31)
  have hne : w.heap.size ≠ g := by omega
  have hb := lt_of_block h1
  have d0 := (hBa.cell (p := ⟨g, off + at_ * 3, none⟩) hg).trans e0
  have d1 := (hBa.cell (p := ⟨g, off + at_ * 3 + 1, none⟩) hg).trans e1
  have d2 := (hBa.cell (p := ⟨g, off + at_ * 3 + 2, none⟩) hg).trans e2
  have b0 := (hBa.cell (p := ⟨b, 0, none⟩) hb).trans (block_cell h1 0)
  have b1 := (hBa.cell (p := ⟨b, 1, none⟩) hb).trans (block_cell h1 1)
  have c0 := block_cell hnew 0
  have c1 := block_cell hnew 1
  have c2 := block_cell hnew 2
  have f0 := block_free hnew 0
  have f1 := block_free hnew 1
  have f2 := block_free hnew 2
  have Hnew := Lib.hid hnew
  have HBa := Lib.hid hBa
  clear hnew hBa h h1 h3 h4 hx e0 e1 e2
  generalize T.length = len at *
  go_enter Tryd.func32, Tryd.ntmps32
  go_wp2_with fail
  generalize w.alloc (.cells #[.int .i64 0, .string ⟨#[]⟩, .int .i64 0] 31) = wa at *
  go_region
  go_wp2_with fail
  refine ret32 wa w.heap.size _ _ _ _ _ _ Hnew.out ?_ ?_ ?_
  · rfl
  · rfl
  exact ⟨rfl, (below_row HBa.out Hnew.out (Nat.le_refl _) _ _ _).drew⟩
set_option maxHeartbeats 1000000 in
theorem fits_any (b : Nat) (T : List Tk) (at_ : Nat) (I : List Im) (iv : Value) (w : World) (ok : Bool) (h : Rd b T at_ I iv w) (ha : at_ ≤ 4611686018427387904) :
    Calls Tryd.prog 90 #[.pointer (some ⟨b, 0, none⟩), .bool ok] w fun e w' => e = .returned (.bool ok) ∧ Rd b T (if ok = true then at_ + 1 else at_) I iv w' ∧ One b w w' := by
  obtain ⟨g, off, cap, h1, h2, h3, h4⟩ := h.f
  have b1 := block_cell h1 1
  have f1 := block_free h1 1
  have hs := h.setAt (e := at_ + 1)
  have H := Lib.hid h
  have HS := Lib.hid hs
  clear h h1 h2 h3 h4 hs
  cases ok
  · go_enter Tryd.func90, Tryd.ntmps90
    go_wp2_with fail
    go_ret
    exact ⟨rfl, H.out, One.of (Below.refl _ _)⟩
  · go_enter Tryd.func90, Tryd.ntmps90
    go_wp2_with fail
    go_ret
    exact ⟨rfl, HS.out.1, HS.out.2⟩
end Go.Proofs.YtejogobhnbjpdaaDoor
namespace Go.Proofs.YtejogobhnbjpdaaDoor
set_option linter.unusedVariables false
set_option linter.unusedSimpArgs false
open Go.ChangeShapes Go.WideShapes Go.ChangeAt Go.RowKit

def tIs (k : Nat) (t : ByteArray) (x : Tk) : Bool := decide (x.1 = k) && decide (x.2.1 = t)
def tSemi (x : Tk) : Bool := decide (x.1 = 6)
def tName (x : Tk) : Bool := decide (x.1 = 1) && !keyB x.2.1
def nx (ok : Bool) (i : Nat) : Nat := if ok = true then i + 1 else i
theorem Rd.lo {b at_ : Nat} {T : List Tk} {I : List Im} {iv : Value} {w w' : World} (h : Rd b T at_ I iv w) (hB : Below w.heap.size w w') : Below b w w' := hB.mono (Nat.le_of_lt h.lt)
theorem Rd.one {b at_ : Nat} {T : List Tk} {I : List Im} {iv : Value} {w w' : World} (h : Rd b T at_ I iv w) (hB : Below w.heap.size w w') : One b w w' := One.of hB
theorem int_eqb (a b : Nat) : ((a : Int) == (b : Int)) = decide (a = b) := by
  by_cases h : a = b
  · rw [decide_eq_true h]; exact beq_iff_eq.2 (by omega)
  · rw [decide_eq_false h]; exact beq_eq_false_iff_ne.2 (by omega)
theorem str_eqb (a b : ByteArray) : (a.toList == b.toList) = decide (a = b) := by
  rw [beq_data]
  by_cases h : a = b
  · subst h; simp
  · rw [decide_eq_false h]; exact decide_eq_false (fun e => h (ba_ext e))
theorem fld0 (x y z : Value) (w : World) : (Instr.field 31 (.agg #[x, y, z]) 0).run Tryd.prog w = .ok x w := by kernel_rfl
theorem fld1 (x y z : Value) (w : World) : (Instr.field 31 (.agg #[x, y, z]) 1).run Tryd.prog w = .ok y w := by kernel_rfl
theorem fld2 (x y z : Value) (w : World) : (Instr.field 31 (.agg #[x, y, z]) 2).run Tryd.prog w = .ok z w := by kernel_rfl
set_option maxRecDepth 100000 in
set_option maxHeartbeats 1000000 in
theorem is_any (b : Nat) (T : List Tk) (at_ : Nat) (I : List Im) (iv : Value) (w : World) (x : Tk) (k : Nat) (t : ByteArray) (h : Rd b T at_ I iv w) (hx : T[at_]? = some x) (ha : at_ ≤ 4611686018427387904) :
    Calls Tryd.prog 75 #[.pointer (some ⟨b, 0, none⟩), .int .i64 k, .string t] w fun e w' => e = .returned (.bool (tIs k t x)) ∧ Rd b T (nx (tIs k t x) at_) I iv w' ∧ One b w w' := by
  have HN := Lib.hid (fun w1 (h1 : Rd b T at_ I iv w1) => now_any b T at_ I iv w1 x h1 hx)
  have HF := Lib.hid (fun ok w1 (h1 : Rd b T at_ I iv w1) => fits_any b T at_ I iv w1 ok h1 ha)
  have H := Lib.hid h
  obtain ⟨k2, y, p⟩ := x
  have hf0 := fld0 (.int .i64 k2) (.string y) (.int .i64 p)
  have hf1 := fld1 (.int .i64 k2) (.string y) (.int .i64 p)
  have hke := int_eqb k2 k
  have hse := str_eqb y t
  have ht : tIs k t (k2, y, p) = (decide (k2 = k) && decide (y = t)) := rfl
  rw [ht]
  unfold tkA at HN
  clear h hx ht
  generalize decide (y = t) = sb at *
  generalize decide (k2 = k) = kb at *
  cases kb
  · go_enter Tryd.func75, Tryd.ntmps75
    go_wp2_with fail
    refine (HN.out _ H.out).mono ?_
    rintro r w1 ⟨rfl, hB⟩
    have HB := Lib.hid (H.out.one hB)
    have H1 := Lib.hid (H.out.below hB)
    clear hB
    go_wp2_with fail
    refine (HF.out false _ H1.out).mono ?_
    rintro r w2 ⟨rfl, h2, hB2⟩
    have H2 := Lib.hid h2
    have HB2 := Lib.hid (HB.out.trans hB2)
    clear h2 hB2
    go_wp2_with fail
    go_ret
    exact ⟨rfl, H2.out, HB2.out⟩
  · go_enter Tryd.func75, Tryd.ntmps75
    go_wp2_with fail
    refine (HN.out _ H.out).mono ?_
    rintro r w1 ⟨rfl, hB⟩
    have HB := Lib.hid (H.out.one hB)
    have H1 := Lib.hid (H.out.below hB)
    clear hB
    go_wp2_with fail
    refine (HN.out _ H1.out).mono ?_
    rintro r w3 ⟨rfl, hB⟩
    have HB3 := Lib.hid (HB.out.trans (H1.out.one hB))
    have H3 := Lib.hid (H1.out.below hB)
    clear hB
    go_wp2_with fail
    refine (HF.out sb _ H3.out).mono ?_
    rintro r w2 ⟨rfl, h2, hB2⟩
    have H2 := Lib.hid h2
    have HB2 := Lib.hid (HB3.out.trans hB2)
    clear h2 hB2
    go_wp2_with fail
    go_ret
    exact ⟨rfl, H2.out, HB2.out⟩
set_option maxRecDepth 100000 in
set_option maxHeartbeats 1000000 in
theorem semi_any (b : Nat) (T : List Tk) (at_ : Nat) (I : List Im) (iv : Value) (w : World) (x : Tk) (h : Rd b T at_ I iv w) (hx : T[at_]? = some x) (ha : at_ ≤ 4611686018427387904) :
    Calls Tryd.prog 77 #[.pointer (some ⟨b, 0, none⟩)] w fun e w' => e = .returned (.bool (tSemi x)) ∧ Rd b T (nx (tSemi x) at_) I iv w' ∧ One b w w' := by
  have HN := Lib.hid (fun w1 (h1 : Rd b T at_ I iv w1) => now_any b T at_ I iv w1 x h1 hx)
  have HF := Lib.hid (fun ok w1 (h1 : Rd b T at_ I iv w1) => fits_any b T at_ I iv w1 ok h1 ha)
  have H := Lib.hid h
  obtain ⟨k2, y, p⟩ := x
  have hf0 := fld0 (.int .i64 k2) (.string y) (.int .i64 p)
  have hf1 := fld1 (.int .i64 k2) (.string y) (.int .i64 p)
  have hke : ((k2 : Int) == 6) = decide (k2 = 6) := int_eqb k2 6
  have ht : tSemi (k2, y, p) = decide (k2 = 6) := rfl
  rw [ht]
  unfold tkA at HN
  clear h hx ht
  generalize decide (k2 = 6) = kb at *
  go_enter Tryd.func77, Tryd.ntmps77
  go_wp2_with fail
  refine (HN.out _ H.out).mono ?_
  rintro r w1 ⟨rfl, hB⟩
  have HB := Lib.hid (H.out.one hB)
  have H1 := Lib.hid (H.out.below hB)
  clear hB
  go_wp2_with fail
  refine (HF.out kb _ H1.out).mono ?_
  rintro r w2 ⟨rfl, h2, hB2⟩
  have H2 := Lib.hid h2
  have HB2 := Lib.hid (HB.out.trans hB2)
  clear h2 hB2
  go_wp2_with fail
  go_ret
  exact ⟨rfl, H2.out, HB2.out⟩
set_option maxRecDepth 100000 in
set_option maxHeartbeats 1000000 in
theorem rname_any (b : Nat) (T : List Tk) (at_ : Nat) (I : List Im) (iv : Value) (w : World) (x : Tk) (h : Rd b T at_ I iv w) (hx : T[at_]? = some x) (ha : at_ ≤ 4611686018427387904) :
    Calls Tryd.prog 76 #[.pointer (some ⟨b, 0, none⟩)] w fun e w' => e = .returned (.bool (tName x)) ∧ Rd b T (nx (tName x) at_) I iv w' ∧ One b w w' := by
  have HN := Lib.hid (fun w1 (h1 : Rd b T at_ I iv w1) => now_any b T at_ I iv w1 x h1 hx)
  have HF := Lib.hid (fun ok w1 (h1 : Rd b T at_ I iv w1) => fits_any b T at_ I iv w1 ok h1 ha)
  have H := Lib.hid h
  obtain ⟨k2, y, p⟩ := x
  have hf0 := fld0 (.int .i64 k2) (.string y) (.int .i64 p)
  have hf1 := fld1 (.int .i64 k2) (.string y) (.int .i64 p)
  have HK := Lib.hid (fun w1 => keyword_any y w1)
  have hke : ((k2 : Int) == 1) = decide (k2 = 1) := int_eqb k2 1
  have ht : tName (k2, y, p) = (decide (k2 = 1) && !keyB y) := rfl
  rw [ht]
  unfold tkA at HN
  clear h hx ht
  generalize keyB y = yb at *
  generalize decide (k2 = 1) = kb at *
  cases kb
  · go_enter Tryd.func76, Tryd.ntmps76
    go_wp2_with fail
    refine (HN.out _ H.out).mono ?_
    rintro r w1 ⟨rfl, hB⟩
    have HB := Lib.hid (H.out.one hB)
    have H1 := Lib.hid (H.out.below hB)
    clear hB
    go_wp2_with fail
    refine (HF.out false _ H1.out).mono ?_
    rintro r w2 ⟨rfl, h2, hB2⟩
    have H2 := Lib.hid h2
    have HB2 := Lib.hid (HB.out.trans hB2)
    clear h2 hB2
    go_wp2_with fail
    go_ret
    exact ⟨rfl, H2.out, HB2.out⟩
  · go_enter Tryd.func76, Tryd.ntmps76
    go_wp2_with fail
    refine (HN.out _ H.out).mono ?_
    rintro r w1 ⟨rfl, hB⟩
    have HB := Lib.hid (H.out.one hB)
    have H1 := Lib.hid (H.out.below hB)
    clear hB
    go_wp2_with fail
    refine (HN.out _ H1.out).mono ?_
    rintro r w3 ⟨rfl, hB⟩
    have HB3 := Lib.hid (HB.out.trans (H1.out.one hB))
    have H3 := Lib.hid (H1.out.below hB)
    clear hB
    go_wp2_with fail
    refine (HK.out _).mono ?_
    rintro r w4 ⟨rfl, rfl⟩
    go_wp2_with fail
    refine (HF.out (!yb) _ H3.out).mono ?_
    rintro r w2 ⟨rfl, h2, hB2⟩
    have H2 := Lib.hid h2
    have HB2 := Lib.hid (HB3.out.trans hB2)
    clear h2 hB2
    go_wp2_with fail
    go_ret
    exact ⟨rfl, H2.out, HB2.out⟩
end Go.Proofs.YtejogobhnbjpdaaDoor
namespace Go.Proofs.YtejogobhnbjpdaaDoor
set_option linter.unusedVariables false
set_option linter.unusedSimpArgs false
open Go.ChangeShapes Go.WideShapes Go.ChangeAt Go.RowKit

abbrev wPackage : ByteArray := ⟨#[112, 97, 99, 107, 97, 103, 101]⟩
abbrev wImport : ByteArray := ⟨#[105, 109, 112, 111, 114, 116]⟩
abbrev wAny : ByteArray := ⟨#[92, 34, 39, 96, 32, 9, 13, 10]⟩
def tk (T : List Tk) (i : Nat) : Tk := T.getD i (0, ⟨#[]⟩, 0)
/-- Tokens that end in one that is never taken; a string's has quotes. -/
structure EndT (T : List Tk) : Prop where
  pos : 0 < T.length
  on : ∀ (i : Nat) (x : Tk), T[i]? = some x → x.1 ≠ 0 → x.1 ≠ 7 → i + 1 < T.length
  st : ∀ (i : Nat) (x : Tk), T[i]? = some x → x.1 = 4 → 2 ≤ x.2.1.size ∧ x.2.1.size ≤ 1048576
theorem tk_some {T : List Tk} {i : Nat} (h : i < T.length) : T[i]? = some (tk T i) := by
  unfold tk; rw [List.getD_eq_getElem?_getD, List.getElem?_eq_getElem h]; rfl
theorem EndT.is {T : List Tk} (F : EndT T) {i k : Nat} {t : ByteArray} (h : i < T.length) (h0 : k ≠ 0) (h7 : k ≠ 7) (ht : tIs k t (tk T i) = true) : i + 1 < T.length := by
  have he : (tk T i).1 = k := by unfold tIs at ht; simp at ht; exact ht.1
  exact F.on i _ (tk_some h) (by omega) (by omega)
theorem EndT.name {T : List Tk} (F : EndT T) {i : Nat} (h : i < T.length) (ht : tName (tk T i) = true) : i + 1 < T.length := by
  have he : (tk T i).1 = 1 := by unfold tName at ht; simp at ht; exact ht.1
  exact F.on i _ (tk_some h) (by omega) (by omega)
theorem EndT.semi {T : List Tk} (F : EndT T) {i : Nat} (h : i < T.length) (ht : tSemi (tk T i) = true) : i + 1 < T.length := by
  have he : (tk T i).1 = 6 := by unfold tSemi at ht; simpa using ht
  exact F.on i _ (tk_some h) (by omega) (by omega)
theorem str_lit (y : ByteArray) (a : Array UInt8) : (y.toList == a.toList) = decide (y = ⟨a⟩) := by
  have h := str_eqb y ⟨a⟩
  rw [Lib.toList_data ⟨a⟩] at h
  exact h
/-- The package clause: whether it stands there, and where the first token stands that wasn't taken. -/
def clauseR (T : List Tk) : Bool × Nat :=
  if tIs 1 wPackage (tk T 0) = false then (false, 0) else
  if (tk T 1).2.1 = ⟨#[95]⟩ then (false, 1) else
  if tName (tk T 1) = false then (false, 1) else
  if tSemi (tk T 2) = false then (false, 2) else (true, 3)
set_option maxRecDepth 100000 in
set_option maxHeartbeats 1000000 in
theorem clause_any (b : Nat) (T : List Tk) (iv : Value) (w : World) (F : EndT T) (h : Rd b T 0 [] iv w) :
    Calls Tryd.prog 50 #[.pointer (some ⟨b, 0, none⟩)] w fun e w' => e = .returned (.bool (clauseR T).1) ∧ Rd b T (clauseR T).2 [] iv w' ∧ Below b w w' := by
  have h0 := F.pos
  have H := Lib.hid h
  have HO := Lib.hid (fun w' (h1 : One b w w') => h1.lo (Nat.le_of_lt h.lt))
  have H0 := Lib.hid (is_any b T 0 [] iv w _ 1 wPackage h (tk_some h0) (by omega))
  have HC := Lib.hid (show clauseR T = _ from rfl)
  unfold clauseR at HC
  unfold clauseR
  clear h
  by_cases c0 : tIs 1 wPackage (tk T 0) = true
  case neg =>
    rw [Bool.not_eq_true] at c0
    rw [if_pos c0]
    rw [c0] at H0
    go_enter Tryd.func50, Tryd.ntmps50
    go_wp2_with fail
    refine H0.out.mono ?_
    rintro r w1 ⟨rfl, h1, hB⟩
    have H1 := Lib.hid h1
    clear h1
    go_wp2_with fail
    go_ret
    exact ⟨rfl, H1.out, HO.out _ hB⟩
  have h1 : 1 < T.length := F.is h0 (by omega) (by omega) c0
  rw [if_neg (by rw [c0]; exact Bool.noConfusion)]
  rw [c0] at H0
  have HN := Lib.hid (fun w1 (hr : Rd b T 1 [] iv w1) => now_any b T 1 [] iv w1 _ hr (tk_some h1))
  have HA := Lib.hid (fun w1 (hr : Rd b T 1 [] iv w1) => rname_any b T 1 [] iv w1 _ hr (tk_some h1) (by omega))
  have H2 := Lib.hid (fun (ht : tName (tk T 1) = true) w1 (hr : Rd b T 2 [] iv w1) => semi_any b T 2 [] iv w1 _ hr (tk_some (F.name h1 ht)) (by omega))
  clear c0
  generalize tName (tk T 1) = nb at *
  generalize tSemi (tk T 2) = sb at *
  generalize tk T 1 = x1 at *
  obtain ⟨k2, y, p⟩ := x1
  unfold tkA at HN
  have hf1 := fld1 (.int .i64 k2) (.string y) (.int .i64 p)
  have hsl := str_lit y #[95]
  simp only [List.toList_toArray] at hsl
  show Calls _ _ _ _ fun e w' => e = .returned (.bool (if y = ⟨#[95]⟩ then (false, 1) else if nb = false then (false, 1) else if sb = false then (false, 2) else (true, 3) : Bool × Nat).1) ∧ Rd b T (if y = ⟨#[95]⟩ then (false, 1) else if nb = false then (false, 1) else if sb = false then (false, 2) else (true, 3) : Bool × Nat).2 [] iv w' ∧ _
  clear HC
  by_cases cy : y = ⟨#[95]⟩
  · rw [if_pos cy]
    rw [decide_eq_true cy] at hsl
    have hsn : (y.toList != ([95] : List UInt8)) = false := by rw [bne, hsl]; rfl
    clear cy
    go_enter Tryd.func50, Tryd.ntmps50
    go_wp2_with fail
    refine H0.out.mono ?_
    rintro r w1 ⟨rfl, h1, hB⟩
    have H1 := Lib.hid h1
    have HB := Lib.hid hB
    clear h1 hB
    go_wp2_with fail
    refine (HN.out _ H1.out).mono ?_
    rintro r w2 ⟨rfl, hB⟩
    have HB2 := Lib.hid (HB.out.trans (H1.out.one hB))
    have H3 := Lib.hid (H1.out.below hB)
    clear hB
    go_wp2_with fail
    go_ret
    exact ⟨rfl, H3.out, HO.out _ HB2.out⟩
  rw [if_neg cy]
  rw [decide_eq_false cy] at hsl
  have hsn : (y.toList != ([95] : List UInt8)) = true := by rw [bne, hsl]; rfl
  clear cy
  cases nb
  · go_enter Tryd.func50, Tryd.ntmps50
    go_wp2_with fail
    refine H0.out.mono ?_
    rintro r w1 ⟨rfl, h1, hB⟩
    have H1 := Lib.hid h1
    have HB := Lib.hid hB
    clear h1 hB
    go_wp2_with fail
    refine (HN.out _ H1.out).mono ?_
    rintro r w2 ⟨rfl, hB⟩
    have HB2 := Lib.hid (HB.out.trans (H1.out.one hB))
    have H3 := Lib.hid (H1.out.below hB)
    clear hB
    go_wp2_with fail
    refine (HA.out _ H3.out).mono ?_
    rintro r w3 ⟨rfl, h4, hB⟩
    have H4 := Lib.hid h4
    have HB3 := Lib.hid (HB2.out.trans hB)
    clear h4 hB
    go_wp2_with fail
    go_ret
    exact ⟨rfl, H4.out, HO.out _ HB3.out⟩
  · go_enter Tryd.func50, Tryd.ntmps50
    go_wp2_with fail
    refine H0.out.mono ?_
    rintro r w1 ⟨rfl, h1, hB⟩
    have H1 := Lib.hid h1
    have HB := Lib.hid hB
    clear h1 hB
    go_wp2_with fail
    refine (HN.out _ H1.out).mono ?_
    rintro r w2 ⟨rfl, hB⟩
    have HB2 := Lib.hid (HB.out.trans (H1.out.one hB))
    have H3 := Lib.hid (H1.out.below hB)
    clear hB
    go_wp2_with fail
    refine (HA.out _ H3.out).mono ?_
    rintro r w3 ⟨rfl, h4, hB⟩
    have H4 := Lib.hid h4
    have HB3 := Lib.hid (HB2.out.trans hB)
    clear h4 hB
    go_wp2_with fail
    refine (H2.out trivial _ H4.out).mono ?_
    rintro r w4 ⟨rfl, h5, hB⟩
    have H5 := Lib.hid h5
    have HB4 := Lib.hid (HB3.out.trans hB)
    clear h5 hB
    cases sb
    · go_wp2_with fail
      go_ret
      exact ⟨rfl, H5.out, HO.out _ HB4.out⟩
    · go_wp2_with fail
      go_ret
      exact ⟨rfl, H5.out, HO.out _ HB4.out⟩
end Go.Proofs.YtejogobhnbjpdaaDoor
namespace Go.Proofs.YtejogobhnbjpdaaDoor
set_option linter.unusedVariables false
set_option linter.unusedSimpArgs false
open Go.ChangeShapes Go.WideShapes Go.ChangeAt Go.RowKit

/-- Does a text hold a sign that a path may not have? -/
def anyB (s : ByteArray) : Bool := Lib.containsAny s.data.toList wAny.data.toList
def AnyC : Prop := ∀ (s : ByteArray) (w : World), s.size ≤ 1048576 → Calls Tryd.prog 107 #[.string s, .string wAny] w fun e w' => e = .returned (.bool (anyB s)) ∧ Below w.heap.size w w'
def pathOk (p : ByteArray) : Bool := decide (p ≠ ⟨#[]⟩) && !anyB p
def mid (t : ByteArray) : ByteArray := t.extract 1 (t.size - 1)
def named (x : Tk) : Bool := tIs 5 ⟨#[46]⟩ x || tName x
/-- One import: what it is, if each token fits; where the first token stands that wasn't taken. -/
def specR (T : List Tk) (i : Nat) : Option Im × Nat :=
  if (tk T (nx (named (tk T i)) i)).1 = 4 ∧ pathOk (mid (tk T (nx (named (tk T i)) i)).2.1) = true then
    (some (if named (tk T i) = true then (tk T i).2.1 else ⟨#[]⟩, mid (tk T (nx (named (tk T i)) i)).2.1, (tk T i).2.2), nx (named (tk T i)) i + 1)
  else (none, nx (named (tk T i)) i)
theorem specR_pos {T : List Tk} {i : Nat} {m : Im} (h : (specR T i).1 = some m) : i < (specR T i).2 := by
  unfold specR at h ⊢
  split
  · show i < nx _ i + 1
    unfold nx; split <;> omega
  · rename_i hn
    rw [if_neg hn] at h
    cases h
theorem specR_ge (T : List Tk) (i : Nat) : i ≤ (specR T i).2 := by
  unfold specR
  split
  · show i ≤ nx _ i + 1
    unfold nx; split <;> omega
  · show i ≤ nx _ i
    unfold nx; split <;> omega
theorem named_lt {T : List Tk} (F : EndT T) {i : Nat} (h : i < T.length) : nx (named (tk T i)) i < T.length := by
  unfold nx
  split
  · rename_i hn
    unfold named at hn
    rw [Bool.or_eq_true] at hn
    rcases hn with hn | hn
    · exact F.is h (by omega) (by omega) hn
    · exact F.name h hn
  · exact h
theorem specR_lt {T : List Tk} (F : EndT T) {i : Nat} (h : i < T.length) : (specR T i).2 < T.length := by
  have h1 := named_lt F h
  unfold specR
  split
  · rename_i hc
    exact F.on _ _ (tk_some h1) (by omega) (by omega)
  · exact h1
theorem specR_eq (T : List Tk) (i : Nat) (m : Bool) (k0 : Nat) (y0 : ByteArray) (p0 : Nat) (hx : tk T i = (k0, y0, p0)) (hm : named (tk T i) = m) :
    specR T i = if (tk T (nx m i)).1 = 4 ∧ pathOk (mid (tk T (nx m i)).2.1) = true then (some (if m = true then y0 else ⟨#[]⟩, mid (tk T (nx m i)).2.1, p0), nx m i + 1) else (none, nx m i) := by
  subst hm
  unfold specR
  rw [hx]
/-- A block of the walk's own, behind the reader and its imports, is written. -/
theorem Rd.far {b at_ f : Nat} {T : List Tk} {I : List Im} {iv : Value} {w w' : World} (h : Rd b T at_ I iv w) (hb : b < f) (hn : ∀ g, iv.ownBlock = some g → g < f) (hB : Below f w w') : Rd b T at_ I iv w' := by
  obtain ⟨g, off, cap, h1, h2, h3, h4⟩ := h.f
  refine ⟨g, off, cap, (hB.block _ hb).trans h1, h2, h3.under h2 (Nat.le_of_lt (lt_of_block h1)) (hB.mono (by omega)), ?_⟩
  refine ⟨h4.1, ?_⟩
  rcases h4.2 with h | ⟨q, cp, cur, hv, hq, hh, rest⟩
  · exact .inl h
  · exact .inr ⟨q, cp, cur, hv, hq, (hB.block q (hn q (by rw [hv]; rfl))).trans hh, rest⟩
theorem Rd.row {b at_ : Nat} {T : List Tk} {I : List Im} {iv : Value} {w : World} (h : Rd b T at_ I iv w) : ∀ g, iv.ownBlock = some g → g < w.heap.size := by
  obtain ⟨g, off, cap, h1, h2, h3, h4⟩ := h.f
  exact fun g hg => (h4.lt g hg).2
theorem own_slice' {w : World} {base : Nat} {v : Value} {n : Nat} {xs : List Value} (h : w.ownsRow base 44 3 v n xs) : ∃ p c, v = .slice p n c := by
  rcases h.2 with ⟨h1, h2⟩ | ⟨g, cap, cur, hv, _⟩
  · subst h1; exact ⟨none, 0, by rw [h2]⟩
  · exact ⟨_, cap, hv⟩
theorem load44 (w : World) (f : Nat) (x : Im) (h : w.heap[f]? = some (.cells (imV x).toArray 44 (0, 0))) : (loadVar 44 ⟨f, 0, none⟩).run Tryd.prog w = .ok (.agg (imV x).toArray) w :=
  run_loadVar_mid (P := Tryd.prog) w f 0 44 (imV x) _ (fun j z hz => by rw [Nat.zero_add, block_cell h, ← hz, List.getElem?_toArray]) Tryd.underlying44 rfl (by kernel_rfl)
theorem slice_im (w : World) (x : Im) : (Instr.buildSlice 39 1 #[(0, .agg (imV x).toArray)]).run Tryd.prog w = .ok (.slice (some ⟨w.heap.size, 0, none⟩) 1 1) (w.alloc (.cells (imV x).toArray 44)) := by
  simp [imV, go_sem, Instr.buildSlice]
structure RB (b : Nat) (T : List Tk) (at_ : Nat) (I : List Im) (v : Value) (w : World) : Prop where
  f : ∃ g off cap u, w.heap[b]? = some (.cells #[.slice (some ⟨g, off, none⟩) T.length cap, .int .i64 at_, u] 59 (0, 0)) ∧ g < b ∧
    LAt 3 tkV w (.slice (some ⟨g, off, none⟩) T.length cap) T ∧ w.ownsRow (b + 1) 44 3 v I.length (LF imV I)
structure RBE (b : Nat) (T : List Tk) (at_ : Nat) (I : List Im) (v0 v : Value) (w : World) : Prop where
  e : v = v0
  b : RB b T at_ I v w
structure RF_ (b : Nat) (T : List Tk) (at_ : Nat) (I : List Im) (v : Value) (w : World) : Prop where
  f : ∃ iv, Rd b T at_ I iv w
theorem RB.st1 (b : Nat) (T : List Tk) (at_ : Nat) (I : List Im) : K3.St1 (RB b T at_ I) := fun v w1 w2 h hB => by
  obtain ⟨g, off, cap, u, h1, h2, h3, h4⟩ := h.f
  exact ⟨g, off, cap, u, (hB.block _ (lt_of_block h1)).trans h1, h2, h3.below hB, gen_own_below h4 hB⟩
theorem RBE.st1 (b : Nat) (T : List Tk) (at_ : Nat) (I : List Im) (v0 : Value) : K3.St1 (RBE b T at_ I v0) := fun v w1 w2 h hB => ⟨h.e, RB.st1 _ _ _ _ v w1 w2 h.b hB⟩
theorem RF_.st1 (b : Nat) (T : List Tk) (at_ : Nat) (I : List Im) : K3.St1 (RF_ b T at_ I) := fun v w1 w2 h hB => by
  obtain ⟨iv, h⟩ := h.f
  exact ⟨iv, h.below hB⟩
theorem RB.grow {b at_ : Nat} {T : List Tk} {I : List Im} {v v' : Value} {w w' : World} {x : Im} (h : RB b T at_ I v w) (ho : w'.ownsRow (b + 1) 44 3 v' (I.length + [x].length) (LF imV I ++ LF imV [x])) (hg : w.grownBy w' v.ownBlock) :
    RB b T at_ (I ++ [x]) v' w' ∧ Below b w w' := by
  obtain ⟨g, off, cap, u, h1, h2, h3, h4⟩ := h.f
  have hB : Below (b + 1) w w' := (Below.refl _ _).grown hg (by have := lt_of_block h1; omega) (fun k hk => (h4.lt k hk).1)
  exact ⟨⟨g, off, cap, u, (hB.block b (by omega)).trans h1, h2, h3.under h2 (Nat.le_of_lt (lt_of_block h1)) (hB.mono (by omega)), by rw [List.length_append, LF_app]; exact ho⟩, hB.mono (by omega)⟩
theorem RB.store {b at_ : Nat} {T : List Tk} {I : List Im} {v : Value} {w : World} (h : RB b T at_ I v w) : Rd b T at_ I v (w.setCell ⟨b, 2, none⟩ v) := by
  obtain ⟨g, off, cap, u, h1, h2, h3, h4⟩ := h.f
  have hB : Below b w (w.setCell ⟨b, 2, none⟩ v) := (Below.refl b w).setCell (p := ⟨b, 2, none⟩) (Nat.le_refl b) _
  refine ⟨g, off, cap, ?_, h2, h3.under h2 (Nat.le_of_lt (lt_of_block h1)) hB, ownsRow_setCell_below h4 (by show b < b + 1; omega) _⟩
  have h := block_set (i := 2) (u := v) h1
  simpa using h
theorem out_store9 {o : Oper} {ρ : Operand → Value} {w : World} {φ : Value → World → Prop} {x y : Operand} {B i t : Nat} {p : Option Addr} {n c : Nat} {R : Array Value} (ho : o.op = .store 39 x y) (hx : ρ x = .pointer (some ⟨B, i, none⟩)) (hy : ρ y = .slice p n c)
    (hg : w.heap[B]? = some (.cells R t (0, 0))) (hi : i < R.size) (hφ : φ undef (w.setCell ⟨B, i, none⟩ (.slice p n c))) : K3.Out Tryd.prog o ρ w φ := by
  have hc : w.cell? ⟨B, i, none⟩ = some R[i] := by simp [World.cell?, hg, hi]
  have hf : w.frozen? ⟨B, i, none⟩ = false := by simp [World.frozen?, hg]
  have hw : (storeVar 39 ⟨B, i, none⟩ (.slice p n c)).run Tryd.prog w = .ok () (w.setCell ⟨B, i, none⟩ (.slice p n c)) := by
    simp [storeVar, go_sem, hc, hf]
  unfold K3.Out execOp
  simp only [ho, hx, hy, Instr.storeAt, Instr.sureAddr, Sem.run_bind, Sem.run_pure, Result.andThen_ok, hw]
  exact hφ
set_option maxRecDepth 100000 in
set_option maxHeartbeats 4000000 in
theorem spec_any (HANY : AnyC) (b : Nat) (T : List Tk) (i : Nat) (I : List Im) (iv : Value) (w : World) (F : EndT T) (h : Rd b T i I iv w) (hi : i < T.length) (hl : T.length ≤ 16777216) (hI : I.length ≤ 16777216) :
    Calls Tryd.prog 91 #[.pointer (some ⟨b, 0, none⟩)] w fun e w' => e = .returned (.bool (specR T i).1.isSome) ∧ (∃ iv', Rd b T (specR T i).2 (I ++ (specR T i).1.toList) iv' w') ∧ Below b w w' := by
  have H := Lib.hid h
  have HJ := Lib.hid (named_lt F hi)
  unfold named at HJ
  have HN := Lib.hid (now_any b T i I iv w _ h (tk_some hi))
  have HI := Lib.hid (fun w1 (hr : Rd b T i I iv w1) => is_any b T i I iv w1 _ 5 ⟨#[46]⟩ hr (tk_some hi) (by omega))
  have HM := Lib.hid (fun w1 (hr : Rd b T i I iv w1) => rname_any b T i I iv w1 _ hr (tk_some hi) (by omega))
  have HS := Lib.hid (specR_eq T i (tIs 5 ⟨#[46]⟩ (tk T i) || tName (tk T i)) (tk T i).1 (tk T i).2.1 (tk T i).2.2 rfl rfl)
  unfold tkA at HN
  clear h
  generalize tIs 5 ⟨#[46]⟩ (tk T i) = db at *
  generalize tName (tk T i) = nb at *
  have hj : nx (db || nb) i < T.length := HJ.out
  generalize tk T i = x0 at *
  obtain ⟨k0, y0, p0⟩ := x0
  go_enter Tryd.func91, Tryd.ntmps91
  go_wp2_with fail
  refine HN.out.mono ?_
  rintro r w1 ⟨rfl, hB⟩
  have HB := Lib.hid (H.out.lo hB)
  have H1 := Lib.hid (H.out.below hB)
  clear hB
  go_upto_region 2 with fail
  have hnew := heap_alloc_new w1 (.cells #[.int .i64 k0, .string y0, .int .i64 p0] 31)
  have hBa := (Below.refl w1.heap.size w1).alloc (Nat.le_refl _) (.cells #[.int .i64 k0, .string y0, .int .i64 p0] 31)
  have HBa := Lib.hid (HB.out.trans (H1.out.lo hBa))
  have H2 := Lib.hid (H1.out.below hBa)
  have hbf : b < w1.heap.size := H1.out.lt
  have hlf := lt_of_block hnew
  have c0 := block_cell hnew 0
  have c1 := block_cell hnew 1
  have c2 := block_cell hnew 2
  clear hBa
  generalize w1.alloc (.cells #[.int .i64 k0, .string y0, .int .i64 p0] 31) = w2 at *
  generalize w1.heap.size = f1 at *
  go_upto_region 3 with fail
  have hnew2 := heap_alloc_new w2 (.cells #[.string ⟨#[]⟩, .string ⟨#[]⟩, .int .i64 p0] 44)
  have hBa2 := (Below.refl w2.heap.size w2).alloc (Nat.le_refl _) (.cells #[.string ⟨#[]⟩, .string ⟨#[]⟩, .int .i64 p0] 44)
  have HBa2 := Lib.hid (HBa.out.trans (H2.out.lo hBa2))
  have H3 := Lib.hid (H2.out.below hBa2)
  have hbf2 : b < w2.heap.size := H2.out.lt
  have HR := Lib.hid H2.out.row
  have hlf2 := lt_of_block hnew2
  have Hf := Lib.hid ((hBa2.block f1 hlf).trans hnew)
  have Hfo := Lib.hid hnew2
  have hff : f1 ≠ w2.heap.size := by omega
  clear hBa2 hnew hnew2 c0 c1 c2 hlf H2 HBa H1 HB
  generalize w2.alloc (.cells #[.string ⟨#[]⟩, .string ⟨#[]⟩, .int .i64 p0] 44) = w3 at *
  generalize w2.heap.size = f2 at *
  go_cut [16] from 11 to 16 (fun x wx => x = .bool (db || nb) ∧ Rd b T (nx (db || nb) i) I iv wx ∧ Below b w wx ∧ wx.heap[f1]? = some (.cells #[.int .i64 k0, .string y0, .int .i64 p0] 31 (0, 0)) ∧ wx.heap[f2]? = some (.cells #[.string ⟨#[]⟩, .string ⟨#[]⟩, .int .i64 p0] 44 (0, 0)))
  case first =>
    have HK := Lib.hid (fun w4 w5 (h : One b w4 w5) (hl1 : f1 < w4.heap.size) (hl2 : f2 < w4.heap.size) => And.intro (h.block f1 (by omega) hl1) (h.block f2 (by omega) hl2))
    go_wp2_with fail
    refine (HI.out _ H3.out).mono ?_
    rintro r w4 ⟨rfl, h4, hO⟩
    have H4 := Lib.hid h4
    have HO := Lib.hid hO
    clear h4 hO
    cases db
    · go_wp2_with fail
      refine (HM.out _ H4.out).mono ?_
      rintro r w5 ⟨rfl, h5, hO⟩
      have H5 := Lib.hid h5
      have HO2 := Lib.hid (HO.out.trans hO)
      clear h5 hO
      go_wp2_with fail
      go_meet
      exact ⟨rfl, H5.out, HBa2.out.trans (HO2.out.lo (Nat.le_of_lt H3.out.lt)), (HO2.out.block f1 (by omega) (lt_of_block Hf.out)).trans Hf.out, (HO2.out.block f2 (by omega) hlf2).trans Hfo.out⟩
    · go_wp2_with fail
      go_meet
      exact ⟨rfl, H4.out, HBa2.out.trans (HO.out.lo (Nat.le_of_lt H3.out.lt)), (HO.out.block f1 (by omega) (lt_of_block Hf.out)).trans Hf.out, (HO.out.block f2 (by omega) hlf2).trans Hfo.out⟩
  case rest =>
    obtain ⟨rfl, h4, hB4, hf4, hg4⟩ := hcut
    have H4 := Lib.hid h4
    have HB4 := Lib.hid hB4
    have Hf4 := Lib.hid hf4
    have Hg4 := Lib.hid hg4
    clear h4 hB4 hf4 hg4 HI HM HN H3 H Hf Hfo HBa2
    generalize (db || nb) = m at *
    go_upto_if 16 with fail
    go_cut [17] from 17 to 19 (fun x wx => Rd b T (nx m i) I iv wx ∧ Below b w wx ∧ wx.heap[f2]? = some (.cells #[.string (if m = true then y0 else ⟨#[]⟩), .string ⟨#[]⟩, .int .i64 p0] 44 (0, 0)))
    case first =>
      have c1 := block_cell Hf4.out 1
      have d0 := block_cell Hg4.out 0
      have e0 := block_free Hg4.out 0
      cases m
      · go_wp2_with fail
        go_meet
        exact ⟨H4.out, HB4.out, Hg4.out⟩
      · go_wp2_with fail
        go_meet
        have hbs : Below f2 wc (wc.setCell ⟨f2, 0, none⟩ (.string y0)) := (Below.refl f2 wc).setCell (p := ⟨f2, 0, none⟩) (Nat.le_refl f2) _
        refine ⟨H4.out.far hbf2 HR.out hbs, HB4.out.trans (hbs.mono (by omega)), ?_⟩
        have h := block_set (i := 0) (u := .string y0) Hg4.out
        simpa using h
    case rest =>
      obtain ⟨h5, hB5, hg5⟩ := hcut
      have HN := Lib.hid (now_any b T (nx m i) I iv wc _ h5 (tk_some HJ.out))
      have HF := Lib.hid (fun ok w1 (hr : Rd b T (nx m i) I iv w1) => fits_any b T (nx m i) I iv w1 ok hr (by have := HJ.out; omega))
      have HST := Lib.hid (F.st _ _ (tk_some HJ.out))
      have HJ1 := Lib.hid HJ.out
      have H5 := Lib.hid h5
      have HB5 := Lib.hid hB5
      have Hg5 := Lib.hid hg5
      clear h5 hB5 hg5 H4 HB4 Hf4 Hg4 HJ hj
      generalize (if m = true then y0 else (⟨#[]⟩ : ByteArray)) = nm at *
      generalize nx m i = j at *
      generalize tk T j = x1 at *
      obtain ⟨k1, y1, p1⟩ := x1
      unfold tkA at HN
      have hlf5 := lt_of_block Hg5.out
      go_wp2_with fail
      refine HN.out.mono ?_
      rintro r w6 ⟨rfl, hB⟩
      have H6 := Lib.hid (H5.out.below hB)
      have HB6 := Lib.hid (HB5.out.trans (H5.out.lo hB))
      have Hg6 := Lib.hid ((hB.block f2 hlf5).trans Hg5.out)
      have hlf6 := lt_of_block Hg6.out
      clear hB hlf5 H5 HB5 Hg5
      go_upto_region 6 with fail
      have hnew := heap_alloc_new w6 (.cells #[.int .i64 k1, .string y1, .int .i64 p1] 31)
      have hBa := (Below.refl w6.heap.size w6).alloc (Nat.le_refl _) (.cells #[.int .i64 k1, .string y1, .int .i64 p1] 31)
      have HB7 := Lib.hid (HB6.out.trans (H6.out.lo hBa))
      have H7 := Lib.hid (H6.out.below hBa)
      have Hg7 := Lib.hid ((hBa.block f2 hlf6).trans Hg6.out)
      have Hf7 := Lib.hid hnew
      have hne : f2 ≠ w6.heap.size := by omega
      have hlf7 := lt_of_block Hg7.out
      have c0 := block_cell hnew 0
      have c1 := block_cell hnew 1
      have d1 := block_cell Hg7.out 1
      have e1 := block_free Hg7.out 1
      clear hBa hnew hlf6 H6 HB6 Hg6
      generalize w6.alloc (.cells #[.int .i64 k1, .string y1, .int .i64 p1] 31) = w7 at *
      generalize w6.heap.size = f3 at *
      by_cases hk : k1 = 4
      case neg =>
        have u4 : ((k1 : Int) == 4) = false := beq_eq_false_iff_ne.2 (by omega)
        have u4n : ((k1 : Int) != 4) = true := by rw [bne, u4]; rfl
        have hs := HS.out
        rw [if_neg (fun h => hk h.1)] at hs
        have HS2 := Lib.hid hs
        clear hs hk
        go_wp2_with fail
        go_ret
        rw [HS2.out]
        exact ⟨rfl, ⟨iv, by simpa using H7.out⟩, HB7.out⟩
      have u4 : ((k1 : Int) == 4) = true := beq_iff_eq.2 (by omega)
      have u4n : ((k1 : Int) != 4) = false := by rw [bne, u4]; rfl
      have hst := HST.out hk
      have hz1 : 2 ≤ y1.size := hst.1
      have hz2 : y1.size ≤ 1048576 := hst.2
      have HS2 := Lib.hid (show specR T i = if pathOk (mid y1) = true then (some (nm, mid y1, p0), j + 1) else (none, j) from by
        rw [HS.out]
        by_cases hp : pathOk (mid y1) = true
        · rw [if_pos ⟨hk, hp⟩, if_pos hp]
        · rw [if_neg (fun h => hp h.2), if_neg hp])
      clear hst HST HS hk
      go_upto_region 9 with fail
      have hps : (mid y1).size ≤ 1048576 := by unfold mid; rw [ByteArray.size_extract]; omega
      rw [show y1.extract 1 (y1.size - 1) = mid y1 from rfl]
      generalize mid y1 = p at *
      have hbs : Below f2 w7 (w7.setCell ⟨f2, 1, none⟩ (.string p)) := (Below.refl f2 w7).setCell (p := ⟨f2, 1, none⟩) (Nat.le_refl f2) _
      have H8 := Lib.hid (H7.out.far hbf2 HR.out hbs)
      have HB8 := Lib.hid (HB7.out.trans (hbs.mono (by omega)))
      have hg8 := block_set (i := 1) (u := .string p) Hg7.out
      rw [show (#[Value.string nm, Value.string ⟨#[]⟩, Value.int .i64 p0] : Array Value).setIfInBounds 1 (.string p) = #[.string nm, .string p, .int .i64 p0] from rfl] at hg8
      have Hg8 := Lib.hid hg8
      have d1 := block_cell hg8 1
      clear c0 c1 e1 hbs hg8 Hf7 Hg7 H7 HB7 hlf7
      generalize w7.setCell ⟨f2, 1, none⟩ (.string p) = w8 at *
      have hpe : (p.toList == ([] : List UInt8)) = decide (p = ⟨#[]⟩) := str_lit p #[]
      have HA := Lib.hid (fun w1 => HANY p w1 hps)
      by_cases hp0 : p = ⟨#[]⟩
      · rw [decide_eq_true hp0] at hpe
        have hpn : (p.toList != ([] : List UInt8)) = false := by rw [bne, hpe]; rfl
        have HS3 := Lib.hid (show specR T i = (none, j) from by rw [HS2.out, if_neg (by unfold pathOk; rw [hp0]; simp)])
        clear HS2 hp0
        go_wp2_with fail
        refine (HF.out false _ H8.out).mono ?_
        rintro r w9 ⟨rfl, h9, hO⟩
        have H9 := Lib.hid h9
        have HB9 := Lib.hid (HB8.out.trans (hO.lo (Nat.le_of_lt H8.out.lt)))
        clear h9 hO
        go_wp2_with fail
        go_ret
        rw [HS3.out]
        exact ⟨rfl, ⟨iv, by simpa using H9.out⟩, HB9.out⟩
      rw [decide_eq_false hp0] at hpe
      have HP := Lib.hid hp0
      have hpn : (p.toList != ([] : List UInt8)) = true := by rw [bne, hpe]; rfl
      obtain ⟨ab, hab⟩ : ∃ ab, anyB p = ab := ⟨_, rfl⟩
      have HS3 := Lib.hid (show specR T i = if ab = false then (some (nm, p, p0), j + 1) else (none, j) from by
        rw [HS2.out]; unfold pathOk; rw [decide_eq_true HP.out, hab]; cases ab <;> rfl)
      rw [hab] at HA
      clear hab HS2 hp0
      cases ab
      case true =>
        go_wp2_with fail
        refine (HA.out _).mono ?_
        rintro r w9 ⟨rfl, hB⟩
        have H9 := Lib.hid (H8.out.below hB)
        have HB9 := Lib.hid (HB8.out.trans (H8.out.lo hB))
        clear hB
        go_wp2_with fail
        refine (HF.out false _ H9.out).mono ?_
        rintro r w10 ⟨rfl, h9, hO⟩
        have H10 := Lib.hid h9
        have HB10 := Lib.hid (HB9.out.trans (hO.lo (Nat.le_of_lt H9.out.lt)))
        clear h9 hO
        go_wp2_with fail
        go_ret
        rw [HS3.out]
        exact ⟨rfl, ⟨iv, by simpa using H10.out⟩, HB10.out⟩
      case false =>
        go_wp2_with fail
        refine (HA.out _).mono ?_
        rintro r w9 ⟨rfl, hB⟩
        have H9 := Lib.hid (H8.out.below hB)
        have HB9 := Lib.hid (HB8.out.trans (H8.out.lo hB))
        have Hg9 := Lib.hid ((hB.block f2 (lt_of_block Hg8.out)).trans Hg8.out)
        clear hB
        go_wp2_with fail
        refine (HF.out true _ H9.out).mono ?_
        rintro r w10 ⟨rfl, h9, hO⟩
        have H10 := Lib.hid h9
        have HB10 := Lib.hid (HB9.out.trans (hO.lo (Nat.le_of_lt H9.out.lt)))
        have Hg10 := Lib.hid ((hO.block f2 (by omega) (lt_of_block Hg9.out)).trans Hg9.out)
        clear h9 hO
        go_wp2_with fail
        have hlt := H10.out.lt
        have hd4 : Below w10.heap.size w10 w10.drew := (Below.refl _ _).drew
        obtain ⟨g0, off0, cap0, hbox, hg0, hT0, hI0⟩ := H10.out.f
        have hg10 := Hg10.out
        have hble : b ≤ w10.heap.size := Nat.le_of_lt hlt
        obtain ⟨pt, ct, rfl⟩ := own_slice' hI0
        have hRL : ∃ Rs : List (Value → World → Prop), Rs = [K3.PureV (.pointer (some ⟨b, 0, none⟩)),
            K3.PureV (.pointer (some ⟨b, 0, none⟩)),
            K3.PureV (.pointer (some ⟨b, 0, none⟩)),
            K3.PureV (.pointer (some ⟨b, 2, none⟩)),
            RBE b T (j + 1) I (.slice pt I.length ct),
            K3.PureV (.agg (imV (nm, p, p0)).toArray),
            K3.NewB 1 (imV (nm, p, p0)).toArray 44,
            RB b T (j + 1) (I ++ [(nm, p, p0)]),
            K3.PureV (.pointer (some ⟨b, 0, none⟩)),
            K3.PureV (.pointer (some ⟨b, 2, none⟩)),
            RF_ b T (j + 1) (I ++ [(nm, p, p0)])] := ⟨_, rfl⟩
        obtain ⟨Rs, hRs⟩ := hRL
        refine K3.wp_region_rel2 b hble (K3.RL Rs) [2, 2, 2, 2, 1, 2, 1, 1, 2, 2, 1] [1, 1, 1, 1, 1, 1, 1, 2, 1, 1, 2] [[], [], [], [], [], [], [], [4, 6], [], [], [4, 6, 7]] (by kernel_rfl) (by kernel_rfl) (K3.RL.st1 (by rw [hRs]; exact K3.st1_cons (K3.PureV.st1 _) (K3.st1_cons (K3.PureV.st1 _) (K3.st1_cons (K3.PureV.st1 _) (K3.st1_cons (K3.PureV.st1 _) (K3.st1_cons (RBE.st1 _ _ _ _ _) (K3.st1_cons (K3.PureV.st1 _) (K3.st1_cons (K3.NewB.st1 _ _ _) (K3.st1_cons (RB.st1 _ _ _ _) (K3.st1_cons (K3.PureV.st1 _) (K3.st1_cons (K3.PureV.st1 _) (K3.st1_cons (RF_.st1 _ _ _ _) (K3.st1_nil))))))))))))) (K3.RL.st2 (by rw [hRs]; exact K3.st2_cons (K3.PureV.st2 _ _ _) (K3.st2_cons (K3.PureV.st2 _ _ _) (K3.st2_cons (K3.PureV.st2 _ _ _) (K3.st2_cons (K3.PureV.st2 _ _ _) (K3.st2_skip (K3.st2_cons (K3.PureV.st2 _ _ _) (K3.st2_skip (K3.st2_skip (K3.st2_cons (K3.PureV.st2 _ _ _) (K3.st2_cons (K3.PureV.st2 _ _ _) (K3.st2_skip (K3.st2_nil))))))))))))) ?_ ?_ ?_
        · intro i o d hi hd
          have hmem := List.mem_of_getElem? hi
          simp only [List.mem_cons, List.not_mem_nil, or_false] at hmem
          rcases hmem with rfl | rfl | rfl | rfl | rfl | rfl | rfl | rfl | rfl | rfl | rfl <;> simp at hd <;> (subst hd; simp)
        · refine K3.rel_start (Φ := K3.Hop _ _ _ _ _ _ _) ?_
          refine K3.rel_cons (Φ := K3.Hop _ _ _ _ _ _ _) (k := 0) ?_ ?_
          · intro fa fw hfB hfN hfE hfk hft
            have k0 : fa.eval (.tmp 0) = .pointer (some ⟨b, 0, none⟩) := hft 0 (K3.mem_looks (by kernel_rfl)) (K3.noneed (by kernel_rfl))
            rw [hRs]
            refine K3.hop_plain rfl ?_
            refine K3.out_move rfl ?_
            exact ⟨k0, Below.refl _ _⟩
          refine K3.rel_cons (Φ := K3.Hop _ _ _ _ _ _ _) (k := 1) ?_ ?_
          · intro fa fw hfB hfN hfE hfk hft
            have k0 : fa.eval (.tmp 0) = .pointer (some ⟨b, 0, none⟩) := hft 0 (K3.mem_looks (by kernel_rfl)) (K3.noneed (by kernel_rfl))
            rw [hRs]
            refine K3.hop_plain rfl ?_
            refine K3.out_move rfl ?_
            exact ⟨k0, Below.refl _ _⟩
          refine K3.rel_cons (Φ := K3.Hop _ _ _ _ _ _ _) (k := 2) ?_ ?_
          · intro fa fw hfB hfN hfE hfk hft
            have k46 : fa.eval (.tmp 46) = (.pointer (some ⟨b, 0, none⟩)) := by have := hfk 1 (K3.mem_needs (by kernel_rfl)) _ rfl; rw [hRs] at this; exact this
            rw [hRs]
            refine K3.hop_plain rfl ?_
            generalize fa.eval = ρ at *
            exact K3.out_run (v := .pointer (some ⟨b, 0, none⟩)) (w' := fw) (by simp [execOp, k46, go_sem]) ⟨rfl, Below.refl _ _⟩
          refine K3.rel_cons (Φ := K3.Hop _ _ _ _ _ _ _) (k := 3) ?_ ?_
          · intro fa fw hfB hfN hfE hfk hft
            have k47 : fa.eval (.tmp 47) = (.pointer (some ⟨b, 0, none⟩)) := by have := hfk 2 (K3.mem_needs (by kernel_rfl)) _ rfl; rw [hRs] at this; exact this
            rw [hRs]
            refine K3.hop_plain rfl ?_
            generalize fa.eval = ρ at *
            exact K3.out_run (v := .pointer (some ⟨b, 2, none⟩)) (w' := fw) (by simp [execOp, k47, go_sem]) ⟨rfl, Below.refl _ _⟩
          refine K3.rel_cons (Φ := K3.Hop _ _ _ _ _ _ _) (k := 4) ?_ ?_
          · intro fa fw hfB hfN hfE hfk hft
            have hE : Below w10.drew.heap.size w10.drew fw := hfE (by kernel_rfl)
            have k48 : fa.eval (.tmp 48) = (.pointer (some ⟨b, 2, none⟩)) := by have := hfk 3 (K3.mem_needs (by kernel_rfl)) _ rfl; rw [hRs] at this; exact this
            rw [hRs]
            refine K3.hop_plain rfl ?_
            have hbx := (hE.block b (Nat.lt_of_lt_of_le hlt hd4.size)).trans (show w10.drew.heap[b]? = _ from hbox)
            have hB9 := hd4.trans (hE.mono hd4.size)
            exact out_load3 rfl k48 (by simp [go_sem, block_cell hbx]) ⟨⟨rfl, _, _, _, _, hbx, hg0, hT0.below hB9, gen_own_below hI0 hB9⟩, Below.refl _ _⟩
          refine K3.rel_cons (Φ := K3.Hop _ _ _ _ _ _ _) (k := 5) ?_ ?_
          · intro fa fw hfB hfN hfE hfk hft
            have hE : Below w10.drew.heap.size w10.drew fw := hfE (by kernel_rfl)
            have k4 : fa.eval (.tmp 4) = .pointer (some ⟨f2, 0, none⟩) := hft 4 (K3.mem_looks (by kernel_rfl)) (K3.noneed (by kernel_rfl))
            rw [hRs]
            refine K3.hop_plain rfl ?_
            have hbx := (hE.block f2 (Nat.lt_of_lt_of_le (lt_of_block hg10) hd4.size)).trans (show w10.drew.heap[f2]? = _ from hg10)
            exact out_load3 rfl k4 (load44 fw f2 (nm, p, p0) hbx) ⟨rfl, Below.refl _ _⟩
          refine K3.rel_cons (Φ := K3.Hop _ _ _ _ _ _ _) (k := 6) ?_ ?_
          · intro fa fw hfB hfN hfE hfk hft
            have k50 : fa.eval (.tmp 50) = (.agg (imV (nm, p, p0)).toArray) := by have := hfk 5 (K3.mem_needs (by kernel_rfl)) _ rfl; rw [hRs] at this; exact this
            rw [hRs]
            refine K3.hop_plain rfl ?_
            exact out_buildSlice3 rfl (by simp only [List.map_toArray, List.map_cons, List.map_nil, k50]) (slice_im fw (nm, p, p0)) ⟨⟨_, rfl, heap_alloc_new _ _⟩, (Below.refl _ _).alloc (Nat.le_refl _) _⟩
          refine K3.rel_cons (Φ := K3.Hop _ _ _ _ _ _ _) (k := 7) ?_ ?_
          · intro fa fw hfB hfN hfE hfk hft
            have k49 : (RBE b T (j + 1) I (.slice pt I.length ct)) (fa.eval (.tmp 49)) fw := by have := hfk 4 (K3.mem_needs (by kernel_rfl)) _ rfl; rw [hRs] at this; exact this
            have k51 : (K3.NewB 1 (imV (nm, p, p0)).toArray 44) (fa.eval (.tmp 51)) fw := by have := hfk 6 (K3.mem_needs (by kernel_rfl)) _ rfl; rw [hRs] at this; exact this
            rw [hRs]
            refine K3.hop_plain rfl ?_
            obtain ⟨hv0, hb0⟩ := k49
            obtain ⟨B1, hb1, hb2⟩ := k51
            rw [hv0] at hb0
            obtain ⟨g1, off1, cap1, u1, q1, q2, q3, q4⟩ := hb0.f
            obtain ⟨v', w', hr, ho, hg, ha⟩ := run_append_gen2 eltI fw (b + 1) _ _ _ _ [(nm, p, p0)] q4 (LAt.block rfl rfl hb2) (by simp only [List.length_cons, List.length_nil]; omega) (by unfold maxLen; simp only [List.length_cons, List.length_nil]; omega) (by have := lt_of_block q1; omega)
            obtain ⟨z1, z2⟩ := hb0.grow ho hg
            exact out_append_k3 (.tmp 49) (.tmp 51) 39 rfl hv0 hb1 hr ⟨z1, z2⟩
          refine K3.rel_cons (Φ := K3.Hop _ _ _ _ _ _ _) (k := 8) ?_ ?_
          · intro fa fw hfB hfN hfE hfk hft
            have k45 : fa.eval (.tmp 45) = (.pointer (some ⟨b, 0, none⟩)) := by have := hfk 0 (K3.mem_needs (by kernel_rfl)) _ rfl; rw [hRs] at this; exact this
            rw [hRs]
            refine K3.hop_plain rfl ?_
            generalize fa.eval = ρ at *
            exact K3.out_run (v := .pointer (some ⟨b, 0, none⟩)) (w' := fw) (by simp [execOp, k45, go_sem]) ⟨rfl, Below.refl _ _⟩
          refine K3.rel_cons (Φ := K3.Hop _ _ _ _ _ _ _) (k := 9) ?_ ?_
          · intro fa fw hfB hfN hfE hfk hft
            have k53 : fa.eval (.tmp 53) = (.pointer (some ⟨b, 0, none⟩)) := by have := hfk 8 (K3.mem_needs (by kernel_rfl)) _ rfl; rw [hRs] at this; exact this
            rw [hRs]
            refine K3.hop_plain rfl ?_
            generalize fa.eval = ρ at *
            exact K3.out_run (v := .pointer (some ⟨b, 2, none⟩)) (w' := fw) (by simp [execOp, k53, go_sem]) ⟨rfl, Below.refl _ _⟩
          refine K3.rel_cons (Φ := K3.Hop _ _ _ _ _ _ _) (k := 10) ?_ ?_
          · intro fa fw hfB hfN hfE hfk hft
            have k54 : fa.eval (.tmp 54) = (.pointer (some ⟨b, 2, none⟩)) := by have := hfk 9 (K3.mem_needs (by kernel_rfl)) _ rfl; rw [hRs] at this; exact this
            have k52 : (RB b T (j + 1) (I ++ [(nm, p, p0)])) (fa.eval (.tmp 52)) fw := by have := hfk 7 (K3.mem_needs (by kernel_rfl)) _ rfl; rw [hRs] at this; exact this
            rw [hRs]
            refine K3.hop_plain rfl ?_
            obtain ⟨g1, off1, cap1, u1, q1, q2, q3, q4⟩ := k52.f
            obtain ⟨p6, c6, hv6⟩ := own_slice' q4
            have hst := k52.store
            rw [hv6] at hst
            exact out_store9 rfl k54 (show fa.eval (.tmp 52) = _ from hv6) q1 (by simp) ⟨⟨⟨_, hst⟩⟩, (Below.refl b fw).setCell (p := ⟨b, 2, none⟩) (Nat.le_refl b) _⟩
          exact K3.rel_nil
        · intro fa fw hfB hfy hff hfs hfd
          rw [hRs] at hfy
          have k54 : RF_ b T (j + 1) (I ++ [(nm, p, p0)]) (fa.tmps.getD 54 undef) fw := hfy 10 _ rfl (K3.unkilled (by decide))
          have hBf : Below b w10 fw := (hd4.mono (by omega)).trans hfB
          have e := K3.rel_frame [45, 46, 47, 48, 49, 50, 51, 52, 53, 54] (by kernel_rfl) hff hfs hfd
          simp only [List.foldl] at e
          clear hfy hff hfs hfd 
          generalize fa.tmps.getD 45 undef = x45 at e
          generalize fa.tmps.getD 46 undef = x46 at e
          generalize fa.tmps.getD 47 undef = x47 at e
          generalize fa.tmps.getD 48 undef = x48 at e
          generalize fa.tmps.getD 49 undef = x49 at e
          generalize fa.tmps.getD 50 undef = x50 at e
          generalize fa.tmps.getD 51 undef = x51 at e
          generalize fa.tmps.getD 52 undef = x52 at e
          generalize fa.tmps.getD 53 undef = x53 at e
          generalize fa.tmps.getD 54 undef = x54 at e k54
          simp [List.setIfInBounds_toArray, List.set_cons_succ, List.set_cons_zero] at e
          subst e
          obtain ⟨iv2, k55⟩ := k54.f
          have H12 := Lib.hid k55
          have HB12 := Lib.hid (HB10.out.trans hBf)
          clear k54 k55 hBf
          go_wp2_with fail
          go_ret
          rw [HS3.out]
          exact ⟨rfl, ⟨iv2, H12.out⟩, HB12.out⟩
end Go.Proofs.YtejogobhnbjpdaaDoor
namespace Go.Proofs.YtejogobhnbjpdaaDoor
set_option linter.unusedVariables false
set_option linter.unusedSimpArgs false
open Go.ChangeShapes Go.WideShapes Go.ChangeAt Go.RowKit

/-- The imports in brackets, behind the opening one. -/
def specsR (T : List Tk) (i : Nat) (I : List Im) : Bool × Nat × List Im :=
  if h : i < T.length then
    if tIs 5 ⟨#[41]⟩ (tk T i) = true then (true, i + 1, I)
    else match hs : (specR T i).1 with
      | none => (false, (specR T i).2, I)
      | some m =>
        if tSemi (tk T (specR T i).2) = true then specsR T ((specR T i).2 + 1) (I ++ [m])
        else if (tk T (specR T i).2).2.1 = ⟨#[41]⟩ then specsR T (specR T i).2 (I ++ [m])
        else (false, (specR T i).2, I ++ [m])
  else (false, i, I)
termination_by T.length - i
decreasing_by all_goals (have := specR_pos hs; omega)
theorem specsR_close {T : List Tk} {i : Nat} (I : List Im) (h : i < T.length) (hc : tIs 5 ⟨#[41]⟩ (tk T i) = true) : specsR T i I = (true, i + 1, I) := by
  rw [specsR, dif_pos h, if_pos hc]
theorem specsR_none {T : List Tk} {i : Nat} (I : List Im) (h : i < T.length) (hc : tIs 5 ⟨#[41]⟩ (tk T i) = false) (hs : (specR T i).1 = none) : specsR T i I = (false, (specR T i).2, I) := by
  rw [specsR, dif_pos h, if_neg (by rw [hc]; exact Bool.noConfusion)]
  split
  · rfl
  · rename_i m hm; rw [hs] at hm; cases hm
theorem specsR_some {T : List Tk} {i : Nat} (I : List Im) {m : Im} (h : i < T.length) (hc : tIs 5 ⟨#[41]⟩ (tk T i) = false) (hs : (specR T i).1 = some m) :
    specsR T i I = if tSemi (tk T (specR T i).2) = true then specsR T ((specR T i).2 + 1) (I ++ [m])
        else if (tk T (specR T i).2).2.1 = ⟨#[41]⟩ then specsR T (specR T i).2 (I ++ [m])
        else (false, (specR T i).2, I ++ [m]) := by
  rw [specsR, dif_pos h, if_neg (by rw [hc]; exact Bool.noConfusion)]
  split
  · rename_i hm; rw [hs] at hm; cases hm
  · rename_i m2 hm
    rw [hs] at hm
    injection hm with hm
    subst hm
    rfl
theorem specsR_ok {T : List Tk} (F : EndT T) : ∀ (n i : Nat) (I : List Im), i + n = T.length → 0 < n → I.length ≤ i → i ≤ (specsR T i I).2.1 ∧ (specsR T i I).2.1 < T.length ∧ (specsR T i I).2.2.length ≤ (specsR T i I).2.1 := by
  intro n
  induction n using Nat.strongRecOn with
  | _ n ih =>
    intro i I hn h0 hI
    have hi : i < T.length := by omega
    by_cases hc : tIs 5 ⟨#[41]⟩ (tk T i) = true
    · rw [specsR_close I hi hc]
      exact ⟨Nat.le_succ i, F.is hi (by omega) (by omega) hc, Nat.le_succ_of_le hI⟩
    · rw [Bool.not_eq_true] at hc
      have hlt := specR_lt F hi
      have hge := specR_ge T i
      cases hs : (specR T i).1 with
      | none =>
        rw [specsR_none I hi hc hs]
        exact ⟨hge, hlt, Nat.le_trans hI hge⟩
      | some m =>
        have hp := specR_pos hs
        rw [specsR_some I hi hc hs]
        have hI2 : (I ++ [m]).length ≤ (specR T i).2 := by rw [List.length_append]; simp; omega
        by_cases h1 : tSemi (tk T (specR T i).2) = true
        · rw [if_pos h1]
          have hl := F.semi hlt h1
          have h := ih (T.length - ((specR T i).2 + 1)) (by omega) ((specR T i).2 + 1) (I ++ [m]) (by omega) (by omega) (by omega)
          exact ⟨by omega, h.2⟩
        · rw [if_neg h1]
          by_cases h2 : (tk T (specR T i).2).2.1 = ⟨#[41]⟩
          · rw [if_pos h2]
            have h := ih (T.length - (specR T i).2) (by omega) (specR T i).2 (I ++ [m]) (by omega) (by omega) (by omega)
            exact ⟨by omega, h.2⟩
          · rw [if_neg h2]
            exact ⟨hge, hlt, hI2⟩
/-- What stands behind the word: an import, or those in brackets. -/
def specs1 (T : List Tk) (i : Nat) (I : List Im) : Bool × Nat × List Im :=
  if tIs 5 ⟨#[40]⟩ (tk T i) = true then specsR T (i + 1) I else ((specR T i).1.isSome, (specR T i).2, I ++ (specR T i).1.toList)
theorem specs1_ok {T : List Tk} (F : EndT T) {i : Nat} {I : List Im} (hi : i < T.length) (hI : I.length < i) : i ≤ (specs1 T i I).2.1 ∧ (specs1 T i I).2.1 < T.length ∧ (specs1 T i I).2.2.length ≤ (specs1 T i I).2.1 := by
  unfold specs1
  split
  · rename_i hc
    have hl := F.is hi (by omega) (by omega) hc
    have h := specsR_ok F (T.length - (i + 1)) (i + 1) I (by omega) (by omega) (by omega)
    exact ⟨by omega, h.2⟩
  · have hge := specR_ge T i
    refine ⟨hge, specR_lt F hi, ?_⟩
    show (I ++ (specR T i).1.toList).length ≤ (specR T i).2
    rw [List.length_append]
    cases hs : (specR T i).1 with
    | none => simp; omega
    | some m => simp; omega
set_option maxRecDepth 100000 in
set_option maxHeartbeats 4000000 in
theorem specs_any (HANY : AnyC) (b : Nat) (T : List Tk) (i : Nat) (I : List Im) (iv : Value) (w : World) (F : EndT T) (h : Rd b T i I iv w) (hi : i < T.length) (hl : T.length ≤ 16777216) (hI : I.length ≤ i) :
    Calls Tryd.prog 78 #[.pointer (some ⟨b, 0, none⟩)] w fun e w' => e = .returned (.bool (specs1 T i I).1) ∧ (∃ iv', Rd b T (specs1 T i I).2.1 (specs1 T i I).2.2 iv' w') ∧ Below b w w' := by
  have H := Lib.hid h
  have HB0 := Lib.hid (fun w' (h1 : One b w w') => h1.lo (Nat.le_of_lt h.lt))
  have HI := Lib.hid (is_any b T i I iv w _ 5 ⟨#[40]⟩ h (tk_some hi) (by omega))
  by_cases hc : tIs 5 ⟨#[40]⟩ (tk T i) = true
  case neg =>
    rw [Bool.not_eq_true] at hc
    have HS := Lib.hid (show specs1 T i I = ((specR T i).1.isSome, (specR T i).2, I ++ (specR T i).1.toList) from by unfold specs1; rw [if_neg (by rw [hc]; exact Bool.noConfusion)])
    have HP := Lib.hid (fun w1 (hr : Rd b T i I iv w1) => spec_any HANY b T i I iv w1 F hr hi hl (by omega))
    rw [hc] at HI
    rw [HS.out]
    show Calls _ _ _ _ fun e w' => e = .returned (.bool (specR T i).1.isSome) ∧ (∃ iv', Rd b T (specR T i).2 (I ++ (specR T i).1.toList) iv' w') ∧ Below b w w'
    clear HS hc h
    generalize (specR T i).1.isSome = ok at *
    go_enter Tryd.func78, Tryd.ntmps78
    go_wp2_with fail
    refine HI.out.mono ?_
    rintro r w1 ⟨rfl, h1, hO⟩
    have H1 := Lib.hid h1
    have HB1 := Lib.hid (HB0.out _ hO)
    clear h1 hO
    go_wp2_with fail
    refine (HP.out _ H1.out).mono ?_
    rintro r w2 ⟨rfl, h2, hB⟩
    have H2 := Lib.hid h2
    have HB2 := Lib.hid (HB1.out.trans hB)
    clear h2 hB
    go_wp2_with fail
    go_ret
    exact ⟨rfl, H2.out, HB2.out⟩
  have HS := Lib.hid (show specs1 T i I = specsR T (i + 1) I from by unfold specs1; rw [if_pos hc])
  have hi1 : i + 1 < T.length := F.is hi (by omega) (by omega) hc
  rw [hc] at HI
  have HF := Lib.hid F
  clear hc h F
  go_enter Tryd.func78, Tryd.ntmps78
  go_wp2_with fail
  refine HI.out.mono ?_
  rintro r w1 ⟨rfl, h1, hO⟩
  have H1 := Lib.hid h1
  have HB1 := Lib.hid (HB0.out _ hO)
  clear h1 hO HI
  go_wp2_with fail
  obtain ⟨len, hlen⟩ : ∃ len, len = T.length := ⟨_, rfl⟩
  go_loopg [] (len - (i + 1)) (fun g wr => ∃ (j : Nat) (J : List Im) (jv : Value), j + g = len ∧ j < len ∧ J.length ≤ j ∧ Hid (Rd b T j J jv wr) ∧ Hid (specsR T (i + 1) I = specsR T j J) ∧ Hid (Below b w wr))
  case atStart => exact ⟨i + 1, I, iv, by omega, by omega, by omega, H1, Lib.hid rfl, HB1⟩
  case round =>
    obtain ⟨j, J, jv, hjg, hj, hJ, HR, HE, HB⟩ := hrel
    have hjT : j < T.length := by omega
    have HIs := Lib.hid (is_any b T j J jv wr _ 5 ⟨#[41]⟩ HR.out (tk_some hjT) (by omega))
    have HOl := Lib.hid (fun w' (h1 : One b wr w') => HB.out.trans (h1.lo (Nat.le_of_lt HR.out.lt)))
    by_cases hc : tIs 5 ⟨#[41]⟩ (tk T j) = true
    case pos =>
      have HE2 := Lib.hid (HS.out.trans (HE.out.trans (specsR_close J hjT hc)))
      rw [hc] at HIs
      clear hc
      go_wp2_with fail
      refine HIs.out.mono ?_
      rintro r w2 ⟨rfl, h2, hO⟩
      have H2 := Lib.hid h2
      have HB2 := Lib.hid (HOl.out _ hO)
      clear h2 hO
      go_wp2_with fail
      go_ret
      rw [HE2.out]
      exact ⟨rfl, ⟨jv, H2.out⟩, HB2.out⟩
    rw [Bool.not_eq_true] at hc
    have HP := Lib.hid (fun w1 (hr : Rd b T j J jv w1) => spec_any HANY b T j J jv w1 HF.out hr hjT hl (by omega))
    have hlt := specR_lt HF.out hjT
    have hge := specR_ge T j
    cases hs : (specR T j).1 with
    | none =>
      have HE2 := Lib.hid (HS.out.trans (HE.out.trans (specsR_none J hjT hc hs)))
      rw [hc] at HIs
      rw [hs] at HP
      simp only [Option.isSome_none, Option.toList_none, List.append_nil] at HP
      generalize (specR T j).2 = j2 at *
      clear hc hs
      go_wp2_with fail
      refine HIs.out.mono ?_
      rintro r w2 ⟨rfl, h2, hO⟩
      have H2 := Lib.hid h2
      have HB2 := Lib.hid (HOl.out _ hO)
      clear h2 hO
      go_wp2_with fail
      refine (HP.out _ H2.out).mono ?_
      rintro r w3 ⟨rfl, h3, hB⟩
      have H3 := Lib.hid h3
      have HB3 := Lib.hid (HB2.out.trans hB)
      clear h3 hB
      go_wp2_with fail
      go_ret
      rw [HE2.out]
      exact ⟨rfl, H3.out, HB3.out⟩
    | some m =>
      have hpos := specR_pos hs
      have HE2 := Lib.hid (HE.out.trans (specsR_some J hjT hc hs))
      rw [hc] at HIs
      rw [hs] at HP
      simp only [Option.isSome_some, Option.toList_some] at HP
      generalize (specR T j).2 = j2 at *
      have hJ2 : (J ++ [m]).length ≤ j2 := by rw [List.length_append]; simp; omega
      generalize J ++ [m] = J2 at *
      have HM := Lib.hid (fun kv w1 (hr : Rd b T j2 J2 kv w1) => semi_any b T j2 J2 kv w1 _ hr (tk_some hlt) (by omega))
      have HN := Lib.hid (fun kv w1 (hr : Rd b T j2 J2 kv w1) => now_any b T j2 J2 kv w1 _ hr (tk_some hlt))
      have HSL := Lib.hid (HF.out.semi hlt)
      clear hc hs
      go_wp2_with fail
      refine HIs.out.mono ?_
      rintro r w2 ⟨rfl, h2, hO⟩
      have H2 := Lib.hid h2
      have HB2 := Lib.hid (HOl.out _ hO)
      clear h2 hO
      go_wp2_with fail
      refine (HP.out _ H2.out).mono ?_
      rintro r w3 ⟨rfl, ⟨kv, h3⟩, hB⟩
      have H3 := Lib.hid h3
      have HB3 := Lib.hid (HB2.out.trans hB)
      have HO3 := Lib.hid (fun w' (h1 : One b w3 w') => HB3.out.trans (h1.lo (Nat.le_of_lt H3.out.lt)))
      clear h3 hB
      by_cases hm : tSemi (tk T j2) = true
      · have HE3 := Lib.hid (show specsR T (i + 1) I = specsR T (j2 + 1) J2 from by rw [HE2.out, if_pos hm])
        have hj3 := HSL.out hm
        rw [hm] at HM
        clear hm HSL
        go_wp2_with fail
        refine (HM.out kv _ H3.out).mono ?_
        rintro r w4 ⟨rfl, h4, hO⟩
        have H4 := Lib.hid h4
        have HB4 := Lib.hid (HO3.out _ hO)
        clear h4 hO
        go_wp2_with fail
        go_roundg (len - (j2 + 1))
        case measure => omega
        case rel => exact ⟨j2 + 1, J2, kv, by omega, by omega, by omega, H4, HE3, HB4⟩
      · have HE3 := Lib.hid (show specsR T (i + 1) I = if (tk T j2).2.1 = ⟨#[41]⟩ then specsR T j2 J2 else (false, j2, J2) from by rw [HE2.out, if_neg hm])
        rw [Bool.not_eq_true] at hm
        rw [hm] at HM
        clear hm HSL
        generalize tk T j2 = x2 at *
        obtain ⟨k2, y, p⟩ := x2
        unfold tkA at HN
        have hf1 := fld1 (.int .i64 k2) (.string y) (.int .i64 p)
        have hsl : (y.toList == ([41] : List UInt8)) = decide (y = ⟨#[41]⟩) := str_lit y #[41]
        by_cases hy : y = ⟨#[41]⟩
        · have HE4 := Lib.hid (show specsR T (i + 1) I = specsR T j2 J2 from by rw [HE3.out, if_pos hy])
          rw [decide_eq_true hy] at hsl
          have hsn : (y.toList != ([41] : List UInt8)) = false := by rw [bne, hsl]; rfl
          clear hy
          go_wp2_with fail
          refine (HM.out kv _ H3.out).mono ?_
          rintro r w4 ⟨rfl, h4, hO⟩
          have H4 := Lib.hid h4
          have HB4 := Lib.hid (HO3.out _ hO)
          clear h4 hO
          go_wp2_with fail
          refine (HN.out kv _ H4.out).mono ?_
          rintro r w5 ⟨rfl, hB⟩
          have H5 := Lib.hid (H4.out.below hB)
          have HB5 := Lib.hid (HB4.out.trans (H4.out.lo hB))
          clear hB
          go_wp2_with fail
          go_roundg (len - j2)
          case measure => omega
          case rel => exact ⟨j2, J2, kv, by omega, by omega, by omega, H5, HE4, HB5⟩
        · have HE4 := Lib.hid (show specs1 T i I = (false, j2, J2) from by rw [HS.out, HE3.out, if_neg hy])
          rw [decide_eq_false hy] at hsl
          have hsn : (y.toList != ([41] : List UInt8)) = true := by rw [bne, hsl]; rfl
          clear hy
          go_wp2_with fail
          refine (HM.out kv _ H3.out).mono ?_
          rintro r w4 ⟨rfl, h4, hO⟩
          have H4 := Lib.hid h4
          have HB4 := Lib.hid (HO3.out _ hO)
          clear h4 hO
          go_wp2_with fail
          refine (HN.out kv _ H4.out).mono ?_
          rintro r w5 ⟨rfl, hB⟩
          have H5 := Lib.hid (H4.out.below hB)
          have HB5 := Lib.hid (HB4.out.trans (H4.out.lo hB))
          clear hB
          go_wp2_with fail
          go_ret
          rw [HE4.out]
          exact ⟨rfl, ⟨kv, H5.out⟩, HB5.out⟩
end Go.Proofs.YtejogobhnbjpdaaDoor
namespace Go.Proofs.YtejogobhnbjpdaaDoor
set_option linter.unusedVariables false
set_option linter.unusedSimpArgs false
open Go.ChangeShapes Go.WideShapes Go.ChangeAt Go.RowKit

/-- All imports: whether each token fits; where the first one stands that wasn't taken; the imports. -/
def declR (T : List Tk) (i : Nat) (I : List Im) : Bool × Nat × List Im :=
  if h : i < T.length then
    if tIs 1 wImport (tk T i) = true then
      if hg : i < (specs1 T (i + 1) I).2.1 then
        if (specs1 T (i + 1) I).1 = true then
          if tSemi (tk T (specs1 T (i + 1) I).2.1) = true then declR T ((specs1 T (i + 1) I).2.1 + 1) (specs1 T (i + 1) I).2.2
          else (false, (specs1 T (i + 1) I).2.1, (specs1 T (i + 1) I).2.2)
        else (false, (specs1 T (i + 1) I).2.1, (specs1 T (i + 1) I).2.2)
      else (false, i, I)
    else (true, i, I)
  else (false, i, I)
termination_by T.length - i
decreasing_by omega
theorem declR_end {T : List Tk} {i : Nat} (I : List Im) (h : i < T.length) (hc : tIs 1 wImport (tk T i) = false) : declR T i I = (true, i, I) := by
  rw [declR, dif_pos h, if_neg (by rw [hc]; exact Bool.noConfusion)]
theorem declR_bad {T : List Tk} {i : Nat} (I : List Im) (h : i < T.length) (hc : tIs 1 wImport (tk T i) = true) (hg : i < (specs1 T (i + 1) I).2.1) (hs : (specs1 T (i + 1) I).1 = false) :
    declR T i I = (false, (specs1 T (i + 1) I).2.1, (specs1 T (i + 1) I).2.2) := by
  rw [declR, dif_pos h, if_pos hc, dif_pos hg, if_neg (by rw [hs]; exact Bool.noConfusion)]
theorem declR_on {T : List Tk} {i : Nat} (I : List Im) (h : i < T.length) (hc : tIs 1 wImport (tk T i) = true) (hg : i < (specs1 T (i + 1) I).2.1) (hs : (specs1 T (i + 1) I).1 = true) :
    declR T i I = if tSemi (tk T (specs1 T (i + 1) I).2.1) = true then declR T ((specs1 T (i + 1) I).2.1 + 1) (specs1 T (i + 1) I).2.2
          else (false, (specs1 T (i + 1) I).2.1, (specs1 T (i + 1) I).2.2) := by
  rw [declR, dif_pos h, if_pos hc, dif_pos hg, if_pos hs]
theorem declR_ok {T : List Tk} (F : EndT T) : ∀ (n i : Nat) (I : List Im), i + n = T.length → 0 < n → I.length ≤ i → i ≤ (declR T i I).2.1 ∧ (declR T i I).2.1 < T.length ∧ (declR T i I).2.2.length ≤ (declR T i I).2.1 := by
  intro n
  induction n using Nat.strongRecOn with
  | _ n ih =>
    intro i I hn h0 hI
    have hi : i < T.length := by omega
    by_cases hc : tIs 1 wImport (tk T i) = true
    · have hl := F.is hi (by omega) (by omega) hc
      have hs := specs1_ok F (i := i + 1) (I := I) hl (by omega)
      by_cases h1 : (specs1 T (i + 1) I).1 = true
      · rw [declR_on I hi hc (by omega) h1]
        split
        · rename_i h2
          have h3 := F.semi hs.2.1 h2
          have h := ih (T.length - ((specs1 T (i + 1) I).2.1 + 1)) (by omega) ((specs1 T (i + 1) I).2.1 + 1) (specs1 T (i + 1) I).2.2 (by omega) (by omega) (by omega)
          exact ⟨by omega, h.2⟩
        · exact ⟨by show i ≤ (specs1 T (i + 1) I).2.1; omega, hs.2⟩
      · rw [Bool.not_eq_true] at h1
        rw [declR_bad I hi hc (by omega) h1]
        exact ⟨by show i ≤ (specs1 T (i + 1) I).2.1; omega, hs.2⟩
    · rw [Bool.not_eq_true] at hc
      rw [declR_end I hi hc]
      exact ⟨Nat.le_refl i, hi, hI⟩
set_option maxRecDepth 100000 in
set_option maxHeartbeats 4000000 in
theorem decl_any (HANY : AnyC) (b : Nat) (T : List Tk) (i : Nat) (I : List Im) (iv : Value) (w : World) (F : EndT T) (h : Rd b T i I iv w) (hi : i < T.length) (hl : T.length ≤ 16777216) (hI : I.length ≤ i) :
    Calls Tryd.prog 51 #[.pointer (some ⟨b, 0, none⟩)] w fun e w' => e = .returned (.bool (declR T i I).1) ∧ (∃ iv', Rd b T (declR T i I).2.1 (declR T i I).2.2 iv' w') ∧ Below b w w' := by
  have H := Lib.hid h
  have HF := Lib.hid F
  clear h F
  go_enter Tryd.func51, Tryd.ntmps51
  go_wp2_with fail
  obtain ⟨len, hlen⟩ : ∃ len, len = T.length := ⟨_, rfl⟩
  go_loopg [] (len - i) (fun g wr => ∃ (j : Nat) (J : List Im) (jv : Value), j + g = len ∧ j < len ∧ J.length ≤ j ∧ Hid (Rd b T j J jv wr) ∧ Hid (declR T i I = declR T j J) ∧ Hid (Below b w wr))
  case atStart => exact ⟨i, I, iv, by omega, by omega, by omega, H, Lib.hid rfl, Lib.hid (Below.refl _ _)⟩
  case round =>
    obtain ⟨j, J, jv, hjg, hj, hJ, HR, HE, HB⟩ := hrel
    have hjT : j < T.length := by omega
    have HIs := Lib.hid (is_any b T j J jv wr _ 1 wImport HR.out (tk_some hjT) (by omega))
    have HOl := Lib.hid (fun w' (h1 : One b wr w') => HB.out.trans (h1.lo (Nat.le_of_lt HR.out.lt)))
    by_cases hc : tIs 1 wImport (tk T j) = true
    case neg =>
      rw [Bool.not_eq_true] at hc
      have HE2 := Lib.hid (HE.out.trans (declR_end J hjT hc))
      rw [hc] at HIs
      clear hc
      go_wp2_with fail
      refine HIs.out.mono ?_
      rintro r w2 ⟨rfl, h2, hO⟩
      have H2 := Lib.hid h2
      have HB2 := Lib.hid (HOl.out _ hO)
      clear h2 hO
      go_wp2_with fail
      go_ret
      rw [HE2.out]
      exact ⟨rfl, ⟨jv, H2.out⟩, HB2.out⟩
    have hj1 : j + 1 < T.length := HF.out.is hjT (by omega) (by omega) hc
    have HP := Lib.hid (fun w1 (hr : Rd b T (j + 1) J jv w1) => specs_any HANY b T (j + 1) J jv w1 HF.out hr hj1 hl (by omega))
    have hok := specs1_ok HF.out (i := j + 1) (I := J) hj1 (by omega)
    have HEa := Lib.hid (fun hs => HE.out.trans (declR_bad J hjT hc (by omega) hs))
    have HEb := Lib.hid (fun hs => HE.out.trans (declR_on J hjT hc (by omega) hs))
    rw [hc] at HIs
    clear hc
    obtain ⟨ok, hok1⟩ : ∃ ok, (specs1 T (j + 1) J).1 = ok := ⟨_, rfl⟩
    rw [hok1] at HP HEa HEb
    clear hok1
    generalize (specs1 T (j + 1) J).2.1 = j2 at *
    generalize (specs1 T (j + 1) J).2.2 = J2 at *
    obtain ⟨hk1, hk2, hk3⟩ := hok
    cases ok
    case false =>
      have HE2 := Lib.hid (HEa.out rfl)
      clear HEa HEb
      go_wp2_with fail
      refine HIs.out.mono ?_
      rintro r w2 ⟨rfl, h2, hO⟩
      have H2 := Lib.hid h2
      have HB2 := Lib.hid (HOl.out _ hO)
      clear h2 hO
      go_wp2_with fail
      refine (HP.out _ H2.out).mono ?_
      rintro r w3 ⟨rfl, h3, hB⟩
      have H3 := Lib.hid h3
      have HB3 := Lib.hid (HB2.out.trans hB)
      clear h3 hB
      go_wp2_with fail
      go_ret
      rw [HE2.out]
      exact ⟨rfl, H3.out, HB3.out⟩
    have HE2 := Lib.hid (HEb.out rfl)
    clear HEa HEb
    have HM := Lib.hid (fun kv w1 (hr : Rd b T j2 J2 kv w1) => semi_any b T j2 J2 kv w1 _ hr (tk_some hk2) (by omega))
    have HSL := Lib.hid (HF.out.semi hk2)
    obtain ⟨sm, hsm⟩ : ∃ sm, tSemi (tk T j2) = sm := ⟨_, rfl⟩
    rw [hsm] at HM HSL HE2
    clear hsm
    go_wp2_with fail
    refine HIs.out.mono ?_
    rintro r w2 ⟨rfl, h2, hO⟩
    have H2 := Lib.hid h2
    have HB2 := Lib.hid (HOl.out _ hO)
    clear h2 hO
    go_wp2_with fail
    refine (HP.out _ H2.out).mono ?_
    rintro r w3 ⟨rfl, ⟨kv, h3⟩, hB⟩
    have H3 := Lib.hid h3
    have HB3 := Lib.hid (HB2.out.trans hB)
    have HO3 := Lib.hid (fun w' (h1 : One b w3 w') => HB3.out.trans (h1.lo (Nat.le_of_lt H3.out.lt)))
    clear h3 hB
    go_wp2_with fail
    refine (HM.out kv _ H3.out).mono ?_
    rintro r w4 ⟨rfl, h4, hO⟩
    have H4 := Lib.hid h4
    have HB4 := Lib.hid (HO3.out _ hO)
    clear h4 hO
    cases sm
    case false =>
      have HE3 := Lib.hid (HE2.out.trans (if_neg Bool.noConfusion))
      go_wp2_with fail
      go_ret
      rw [HE3.out]
      exact ⟨rfl, ⟨kv, H4.out⟩, HB4.out⟩
    have HE3 := Lib.hid (HE2.out.trans (if_pos rfl))
    have hk4 := HSL.out rfl
    clear HSL
    go_wp2_with fail
    go_roundg (len - (j2 + 1))
    case measure => omega
    case rel => exact ⟨j2 + 1, J2, kv, by omega, by omega, by omega, H4, HE3, HB4⟩
/-- The beginning: its fault; where the token stands at which it ends; the imports. -/
def beginR (T : List Tk) : Nat × Nat × List Im :=
  if (clauseR T).1 = false then (if (tk T (clauseR T).2).1 = 7 then 1 else 2, (clauseR T).2, [])
  else if (declR T 3 []).1 = false then (if (tk T (declR T 3 []).2.1).1 = 7 then 1 else 3, (declR T 3 []).2.1, (declR T 3 []).2.2)
  else (if (tk T (declR T 3 []).2.1).1 = 7 then 1 else 0, (declR T 3 []).2.1, (declR T 3 []).2.2)
theorem clauseR_ok {T : List Tk} (F : EndT T) : (clauseR T).2 < T.length ∧ ((clauseR T).1 = true → (clauseR T).2 = 3) := by
  have h0 := F.pos
  unfold clauseR
  by_cases c0 : tIs 1 wPackage (tk T 0) = true
  · have h1 : 1 < T.length := F.is h0 (by omega) (by omega) c0
    rw [if_neg (by rw [c0]; exact Bool.noConfusion)]
    by_cases c1 : (tk T 1).2.1 = ⟨#[95]⟩
    · rw [if_pos c1]; exact ⟨h1, fun h => by cases h⟩
    · rw [if_neg c1]
      by_cases c2 : tName (tk T 1) = true
      · have h2 := F.name h1 c2
        rw [if_neg (by rw [c2]; exact Bool.noConfusion)]
        by_cases c3 : tSemi (tk T 2) = true
        · have h3 := F.semi h2 c3
          rw [if_neg (by rw [c3]; exact Bool.noConfusion)]
          exact ⟨h3, fun _ => rfl⟩
        · rw [Bool.not_eq_true] at c3
          rw [if_pos c3]
          exact ⟨h2, fun h => by cases h⟩
      · rw [Bool.not_eq_true] at c2
        rw [if_pos c2]
        exact ⟨h1, fun h => by cases h⟩
  · rw [Bool.not_eq_true] at c0
    rw [if_pos c0]
    exact ⟨h0, fun h => by cases h⟩
set_option maxRecDepth 100000 in
set_option maxHeartbeats 4000000 in
theorem begin_any (HANY : AnyC) (b : Nat) (T : List Tk) (iv : Value) (w : World) (F : EndT T) (h : Rd b T 0 [] iv w) (hl : T.length ≤ 16777216) :
    Calls Tryd.prog 31 #[.pointer (some ⟨b, 0, none⟩)] w fun e w' => e = .returned (.int .i64 ((beginR T).1 : Nat)) ∧ (∃ iv', Rd b T (beginR T).2.1 (beginR T).2.2 iv' w') ∧ Below b w w' := by
  have HC := Lib.hid (clause_any b T iv w F h)
  have hco := clauseR_ok F
  have HBR := Lib.hid (show beginR T = _ from rfl)
  have HN := Lib.hid (fun j J jv w1 (hj : j < T.length) (hr : Rd b T j J jv w1) => now_any b T j J jv w1 _ hr (tk_some hj))
  by_cases hc : (clauseR T).1 = false
  case pos =>
    have HE := Lib.hid (show beginR T = (if (tk T (clauseR T).2).1 = 7 then 1 else 2, (clauseR T).2, []) from by unfold beginR; rw [if_pos hc])
    rw [hc] at HC
    have hj := hco.1
    clear hc hco h HBR
    generalize (clauseR T).2 = j at *
    have HN2 := Lib.hid (fun jv w1 hr => HN.out j [] jv w1 hj hr)
    clear HN
    generalize tk T j = x at *
    obtain ⟨k, y, p⟩ := x
    unfold tkA at HN2
    have hf0 := fld0 (.int .i64 k) (.string y) (.int .i64 p)
    have hke : ((k : Int) == 7) = decide (k = 7) := int_eqb k 7
    by_cases hk : k = 7
    · rw [decide_eq_true hk] at hke
      have HE2 := Lib.hid (HE.out.trans (by rw [if_pos hk]))
      clear hk
      go_enter Tryd.func31, Tryd.ntmps31
      go_wp2_with fail
      refine HC.out.mono ?_
      rintro r w1 ⟨rfl, h1, hB⟩
      have H1 := Lib.hid h1
      have HB1 := Lib.hid hB
      clear h1 hB
      go_wp2_with fail
      refine (HN2.out _ _ H1.out).mono ?_
      rintro r w2 ⟨rfl, hB⟩
      have H2 := Lib.hid (H1.out.below hB)
      have HB2 := Lib.hid (HB1.out.trans (H1.out.lo hB))
      clear hB
      go_wp2_with fail
      go_ret
      rw [HE2.out]
      exact ⟨rfl, ⟨iv, H2.out⟩, HB2.out⟩
    · rw [decide_eq_false hk] at hke
      have HE2 := Lib.hid (HE.out.trans (by rw [if_neg hk]))
      clear hk
      go_enter Tryd.func31, Tryd.ntmps31
      go_wp2_with fail
      refine HC.out.mono ?_
      rintro r w1 ⟨rfl, h1, hB⟩
      have H1 := Lib.hid h1
      have HB1 := Lib.hid hB
      clear h1 hB
      go_wp2_with fail
      refine (HN2.out _ _ H1.out).mono ?_
      rintro r w2 ⟨rfl, hB⟩
      have H2 := Lib.hid (H1.out.below hB)
      have HB2 := Lib.hid (HB1.out.trans (H1.out.lo hB))
      clear hB
      go_wp2_with fail
      go_ret
      rw [HE2.out]
      exact ⟨rfl, ⟨iv, H2.out⟩, HB2.out⟩
  have hc' : (clauseR T).1 = true := by cases h1 : (clauseR T).1 <;> simp_all
  have h3 := hco.2 hc'
  have hl3 := hco.1
  rw [h3] at hl3
  rw [hc', h3] at HC
  have HD := Lib.hid (fun jv w1 (hr : Rd b T 3 [] jv w1) => decl_any HANY b T 3 [] jv w1 F hr hl3 hl (Nat.zero_le _))
  have hdo := declR_ok F (T.length - 3) 3 [] (by omega) (by omega) (Nat.zero_le _)
  have HE := Lib.hid (show beginR T = if (declR T 3 []).1 = false then (if (tk T (declR T 3 []).2.1).1 = 7 then 1 else 3, (declR T 3 []).2.1, (declR T 3 []).2.2)
  else (if (tk T (declR T 3 []).2.1).1 = 7 then 1 else 0, (declR T 3 []).2.1, (declR T 3 []).2.2) from by unfold beginR; rw [if_neg hc])
  clear hc hc' h3 hco h HBR
  obtain ⟨ok, hok⟩ : ∃ ok, (declR T 3 []).1 = ok := ⟨_, rfl⟩
  rw [hok] at HD HE
  clear hok
  have hj := hdo.2.1
  clear hdo
  generalize (declR T 3 []).2.1 = j at *
  generalize (declR T 3 []).2.2 = J at *
  have HN2 := Lib.hid (fun jv w1 hr => HN.out j J jv w1 hj hr)
  clear HN
  generalize tk T j = x at *
  obtain ⟨k, y, p⟩ := x
  unfold tkA at HN2
  have hf0 := fld0 (.int .i64 k) (.string y) (.int .i64 p)
  have hke : ((k : Int) == 7) = decide (k = 7) := int_eqb k 7
  cases ok
  · by_cases hk : k = 7
    · rw [decide_eq_true hk] at hke
      have HE2 := Lib.hid (HE.out.trans (by rw [if_pos rfl, if_pos hk]))
      clear hk
      go_enter Tryd.func31, Tryd.ntmps31
      go_wp2_with fail
      refine HC.out.mono ?_
      rintro r w1 ⟨rfl, h1, hB⟩
      have H1 := Lib.hid h1
      have HB1 := Lib.hid hB
      clear h1 hB
      go_wp2_with fail
      refine (HD.out _ _ H1.out).mono ?_
      rintro r w2 ⟨rfl, ⟨jv, h2⟩, hB⟩
      have H2 := Lib.hid h2
      have HB2 := Lib.hid (HB1.out.trans hB)
      clear h2 hB
      go_wp2_with fail
      refine (HN2.out _ _ H2.out).mono ?_
      rintro r w3 ⟨rfl, hB⟩
      have H3 := Lib.hid (H2.out.below hB)
      have HB3 := Lib.hid (HB2.out.trans (H2.out.lo hB))
      clear hB
      go_wp2_with fail
      go_ret
      rw [HE2.out]
      exact ⟨rfl, ⟨jv, H3.out⟩, HB3.out⟩
    · rw [decide_eq_false hk] at hke
      have HE2 := Lib.hid (HE.out.trans (by rw [if_pos rfl, if_neg hk]))
      clear hk
      go_enter Tryd.func31, Tryd.ntmps31
      go_wp2_with fail
      refine HC.out.mono ?_
      rintro r w1 ⟨rfl, h1, hB⟩
      have H1 := Lib.hid h1
      have HB1 := Lib.hid hB
      clear h1 hB
      go_wp2_with fail
      refine (HD.out _ _ H1.out).mono ?_
      rintro r w2 ⟨rfl, ⟨jv, h2⟩, hB⟩
      have H2 := Lib.hid h2
      have HB2 := Lib.hid (HB1.out.trans hB)
      clear h2 hB
      go_wp2_with fail
      refine (HN2.out _ _ H2.out).mono ?_
      rintro r w3 ⟨rfl, hB⟩
      have H3 := Lib.hid (H2.out.below hB)
      have HB3 := Lib.hid (HB2.out.trans (H2.out.lo hB))
      clear hB
      go_wp2_with fail
      go_ret
      rw [HE2.out]
      exact ⟨rfl, ⟨jv, H3.out⟩, HB3.out⟩
  · by_cases hk : k = 7
    · rw [decide_eq_true hk] at hke
      have HE2 := Lib.hid (HE.out.trans (by rw [if_neg Bool.noConfusion, if_pos hk]))
      clear hk
      go_enter Tryd.func31, Tryd.ntmps31
      go_wp2_with fail
      refine HC.out.mono ?_
      rintro r w1 ⟨rfl, h1, hB⟩
      have H1 := Lib.hid h1
      have HB1 := Lib.hid hB
      clear h1 hB
      go_wp2_with fail
      refine (HD.out _ _ H1.out).mono ?_
      rintro r w2 ⟨rfl, ⟨jv, h2⟩, hB⟩
      have H2 := Lib.hid h2
      have HB2 := Lib.hid (HB1.out.trans hB)
      clear h2 hB
      go_wp2_with fail
      refine (HN2.out _ _ H2.out).mono ?_
      rintro r w3 ⟨rfl, hB⟩
      have H3 := Lib.hid (H2.out.below hB)
      have HB3 := Lib.hid (HB2.out.trans (H2.out.lo hB))
      clear hB
      go_wp2_with fail
      go_ret
      rw [HE2.out]
      exact ⟨rfl, ⟨jv, H3.out⟩, HB3.out⟩
    · rw [decide_eq_false hk] at hke
      have HE2 := Lib.hid (HE.out.trans (by rw [if_neg Bool.noConfusion, if_neg hk]))
      clear hk
      go_enter Tryd.func31, Tryd.ntmps31
      go_wp2_with fail
      refine HC.out.mono ?_
      rintro r w1 ⟨rfl, h1, hB⟩
      have H1 := Lib.hid h1
      have HB1 := Lib.hid hB
      clear h1 hB
      go_wp2_with fail
      refine (HD.out _ _ H1.out).mono ?_
      rintro r w2 ⟨rfl, ⟨jv, h2⟩, hB⟩
      have H2 := Lib.hid h2
      have HB2 := Lib.hid (HB1.out.trans hB)
      clear h2 hB
      go_wp2_with fail
      refine (HN2.out _ _ H2.out).mono ?_
      rintro r w3 ⟨rfl, hB⟩
      have H3 := Lib.hid (H2.out.below hB)
      have HB3 := Lib.hid (HB2.out.trans (H2.out.lo hB))
      clear hB
      go_wp2_with fail
      go_ret
      rw [HE2.out]
      exact ⟨rfl, ⟨jv, H3.out⟩, HB3.out⟩
end Go.Proofs.YtejogobhnbjpdaaDoor
