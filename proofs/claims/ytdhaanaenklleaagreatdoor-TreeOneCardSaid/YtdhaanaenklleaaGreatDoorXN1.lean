/- Entries of a tree: their cells, their openings, boxes; whether they can be a tree; Walks: whether entries are many; whether they can be a tree; Rows of whatever elements: appended, cut, read. -/
import Derived.Test.YtdhaanaenklleaaGreatDoorQ3
import Derived.Test.YtdhaanaenklleaaGreatDoorQ2
import Derived.Test.YtdhaanaenklleaaGreatDoorKy
import Derived.Deep.Onto
import Derived.Maps.AppendAt
namespace Go.Proofs.YtdhaanaenklleaaGreatDoor
set_option linter.unusedVariables false
set_option linter.unusedSimpArgs false
open Go.ChangeShapes Go.WideShapes Go.ChangeAt Go.RowKit

abbrev Ent := ByteArray × (Bool × (List UInt8 × Unit))
abbrev entR : Ent → List Value → Prop := consR strR (consR boolR (consR (bytR 32) nilR))
def entV (a : Ent) : List Value := .string a.1 :: .bool a.2.1 :: bytV a.2.2.1
theorem ent_cells {a : Ent} {cs : List Value} (h : entR a cs) : cs = entV a ∧ a.1.size ≤ 140737488351232 ∧ a.2.2.1.length = 32 := by
  obtain ⟨x, y, rfl, ⟨rfl, h1⟩, p, q, rfl, rfl, z, u, rfl, ⟨rfl, h2⟩, rfl⟩ := h
  exact ⟨by simp [bytV, entV], h1, h2⟩
theorem entR_of {a : Ent} (h1 : a.1.size ≤ 140737488351232) (h2 : a.2.2.1.length = 32) : entR a (entV a) :=
  ⟨[.string a.1], .bool a.2.1 :: bytV a.2.2.1, rfl, ⟨rfl, h1⟩, [.bool a.2.1], bytV a.2.2.1, rfl, rfl, bytV a.2.2.1, [], by simp, ⟨rfl, h2⟩, rfl⟩
theorem entV_len {a : Ent} (h : a.2.2.1.length = 32) : (entV a).length = 34 := by simp [entV, bytV_len, h]
theorem entV_one (a : Ent) : ∀ u ∈ entV a, u.oneCell' = true := by
  intro u hu
  simp only [entV, List.mem_cons, bytV, List.mem_map] at hu
  rcases hu with rfl | rfl | ⟨b, _, rfl⟩ <;> rfl
/-! ### A box with a row of cells in it -/
structure BoxL (w : World) (B : Nat) (row : List Value) (x : World) : Prop where
  lt : B < x.heap.size
  r : ∀ j y, row[j]? = some y → x.cell? ⟨B, j, none⟩ = some y
  b : Below w.heap.size w x
  n : w.heap.size ≤ B
theorem BoxL.below {w x y : World} {B : Nat} {row : List Value} (h : BoxL w B row x) (hB : Below x.heap.size x y) : BoxL w B row y :=
  ⟨Nat.lt_of_lt_of_le h.lt hB.size, fun j q hq => (hB.cell (p := ⟨B, j, none⟩) h.lt).trans (h.r j q hq), h.b.trans (hB.mono h.b.size), h.n⟩
theorem boxL_made (w : World) (old : Array Value) (t : TypeId) (row : List Value) : BoxL w w.heap.size row ((w.alloc (.cells old t)).setRow w.heap.size row.toArray) := by
  refine ⟨by simp [World.setRow], fun j q hq => ?_, below_setRow ((Below.refl _ w).alloc (Nat.le_refl _) _) (Nat.le_refl _) _, Nat.le_refl _⟩
  rw [cell_setRow_same _ _ _ old _ t (0, 0) (by show (w.heap.push _)[w.heap.size]? = _; simp)]
  simpa using hq
theorem box_at (w : World) (old : Array Value) (t : TypeId) (row : List Value) {j : Nat} {y : Value} (h : row[j]? = some y) : ((w.alloc (.cells old t)).setRow w.heap.size row.toArray).cell? ⟨w.heap.size, j, none⟩ = some y := (boxL_made w old t row).r j y h
theorem one_row {row : List Value} (h : ∀ u ∈ row, u.oneCell' = true) : row.toArray.all (·.oneCell') = true := by
  rw [Array.all_eq_true_iff_forall_mem]
  intro x hx
  exact h x (by simpa using hx)
/-- An element of a list in memory. -/
theorem Rows.elem {W : World} {n : Nat} {X : Type} {R : X → List Value → Prop} {v : Value} {l : List X} {ln : Nat} (hln : ln = l.length) (h : Rows W n R v l) :
    ∃ p cap, v = .slice p ln cap ∧ (0 < ln → ∃ g o, p = some ⟨g, o, none⟩ ∧ g < W.heap.size ∧ ln ≤ cap ∧ cap ≤ 9223372036854775807 ∧ ∀ k, ∀ hk : k < l.length, ∃ ecs, R l[k] ecs ∧ ecs.length = n ∧ W.rangeAt g (o + k * n) ecs) := by
  subst hln
  obtain ⟨p, cap, hv, hp⟩ := h.shape
  refine ⟨p, cap, hv, fun h0 => ?_⟩
  obtain ⟨g, o, hp1, hg, hcap, hmax, hcell⟩ := hp h0
  refine ⟨g, o, hp1, hg, hcap, by unfold maxLen at hmax; omega, fun k hk => ?_⟩
  obtain ⟨ecs, h1, h2, h3⟩ := hcell k l[k] (List.getElem?_eq_getElem hk)
  refine ⟨ecs, h1, h2, fun j y hy => ?_⟩
  have := (List.getElem?_eq_some_iff.1 hy).1
  rw [← hy]; exact h3 j (by omega)
theorem range_below {W W' : World} {g o : Nat} {l : List Value} (hg : g < W.heap.size) (h : W.rangeAt g o l) (hB : Below W.heap.size W W') : W'.rangeAt g o l := fun j y hy => (hB.cell (p := ⟨g, o + j, none⟩) hg).trans (h j y hy)

/-! ### What can be a tree -/
def nameB (p : ByteArray) : Bool := goodB p && decide ((cutB 47 p).length = 1)
def okAt (l : List Ent) (k : Nat) : Bool := match l[k]? with
  | none => true
  | some e => nameB e.1 && (match k with | 0 => true | k + 1 => match l[k]? with | none => true | some d => bl d.1 e.1)
def goodT (l : List Ent) : Bool := decide (l.length ≤ 512) && (List.range l.length).all (okAt l)
theorem all_next {f : Nat → Bool} {k : Nat} : (List.range (k + 1)).all f = ((List.range k).all f && f k) := by rw [List.range_succ, List.all_append]; simp
theorem all_not {f : Nat → Bool} {k n : Nat} (hk : k < n) (h : f k = false) : (List.range n).all f = false := by
  rw [Bool.eq_false_iff]
  intro e
  have := List.all_eq_true.1 e k (List.mem_range.2 hk)
  rw [h] at this; cases this
theorem okAt_zero {l : List Ent} (h : 0 < l.length) : okAt l 0 = nameB l[0].1 := by
  unfold okAt; rw [List.getElem?_eq_getElem h]; simp
theorem okAt_succ {l : List Ent} {k : Nat} (h : k + 1 < l.length) : okAt l (k + 1) = (nameB l[k + 1].1 && bl (l[k]'(by omega)).1 l[k + 1].1) := by
  simp [okAt, h, show k < l.length by omega]
theorem name_of {p : ByteArray} (h : nameB p = true) : goodB p = true ∧ (cutB 47 p).length = 1 := by
  unfold nameB at h
  rw [Bool.and_eq_true, decide_eq_true_iff] at h
  exact h
end Go.Proofs.YtdhaanaenklleaaGreatDoor
namespace Go.Proofs.YtdhaanaenklleaaGreatDoor
set_option linter.unusedVariables false
set_option linter.unusedSimpArgs false
open Go.ChangeShapes Go.WideShapes Go.ChangeAt Go.RowKit

theorem goodB_some {z : ByteArray} (h : goodB z = true) : splitL z = cutB 47 z := by
  unfold splitL
  cases hs : some1 z with
  | true => rfl
  | false => rw [empty_of z hs, good_empty] at h; cases h
theorem split_one {z : ByteArray} {e : Ending} {w w2 : World} (hg : goodB z = true) (h : ∃ v, e = .returned v ∧ w2.ownsRow w.heap.size 9 1 v (splitL z).length ((splitL z).map Value.string) ∧ Below w.heap.size w w2) : ∃ v3 c3, e = .returned (.slice v3 (cutB 47 z).length c3) ∧ Below w.heap.size w w2 := by
  rw [goodB_some hg] at h
  obtain ⟨v, rfl, ho, hB⟩ := h
  obtain ⟨p, cap, rfl, -⟩ := strs_shape (Strs.ofRow ho)
  exact ⟨p, cap, rfl, hB⟩
set_option maxRecDepth 100000 in
set_option maxHeartbeats 4000000 in
theorem goodTree_any (v : Value) (a : List Ent) (w : World) (hM : MaxAt w) (hv : Rows w 34 entR v a) (hz : ∀ x ∈ a, x.1.size ≤ 1073741824) (hn : a.length ≤ 9223372036854775806) :
    Calls Tryz.prog 69 #[v] w fun e w' => e = .returned (.bool (goodT a)) ∧ Below w.heap.size w w' := by
  obtain ⟨len, hl⟩ : ∃ len, len = a.length := ⟨_, rfl⟩
  obtain ⟨p, cap, rfl, hp⟩ := hv.elem hl
  have Hp := Lib.hid hp
  have hnl : len ≤ 9223372036854775806 := by omega
  have Ha := Lib.hid hl
  have Hz := Lib.hid hz
  have HG := Lib.hid (fun (z : ByteArray) (hzz : z.size ≤ 1073741824) w1 (h1 : Below w.heap.size w w1) => by obtain ⟨m, hm⟩ := (hM.below h1).2; exact good_any z m w1 hzz hm)
  have HS := Lib.hid (fun (z : ByteArray) (hg : goodB z = true) (hzz : z.size ≤ 1073741824) w1 (h1 : Below w.heap.size w w1) => (by obtain ⟨m, hm⟩ := (hM.below h1).2; exact (psplit_any z m w1 hzz hm).mono (fun e w2 hh => split_one hg hh) : Calls Tryz.prog 59 #[.string z] w1 fun e w2 => ∃ v3 c3, e = .returned (.slice v3 (cutB 47 z).length c3) ∧ Below w1.heap.size w1 w2))
  clear hv hp hl hz hn hM
  by_cases h512 : 512 < len
  · have h512I : (512 : Int) < (len : Int) := by omega
    have Hfin := Lib.hid (show goodT a = false by unfold goodT; rw [decide_eq_false (by have := Ha.out; omega)]; rfl)
    go_enter Tryz.func69, Tryz.ntmps69
    go_wp2_with fail
    go_ret
    exact ⟨by rw [Hfin.out]; rfl, Below.refl _ _⟩
  have h512I : ¬ (512 : Int) < (len : Int) := by omega
  go_enter Tryz.func69, Tryz.ntmps69
  go_wp2_with fail
  go_loopg [10] len (fun g iv wr => ∃ k : Nat, k + g = len ∧ iv = .int .i64 k ∧ (List.range k).all (okAt a) = true ∧ Below w.heap.size w wr)
  case atStart => exact ⟨0, by omega, rfl, rfl, Below.refl _ _⟩
  case round =>
    obtain ⟨k, hkg, rfl, hno, hB⟩ := hrel
    have Hno := Lib.hid hno
    clear hno
    by_cases hlt : k < len
    · have hltI : (k : Int) < (len : Int) := by omega
      have hka : k < a.length := by have := Ha.out; omega
      have hzz := Hz.out _ (List.getElem_mem hka)
      obtain ⟨g1, o1, rfl, hg1, hcap1, hmax1, hcell1⟩ := Hp.out (by omega)
      have HpE := Lib.hid hcell1
      obtain ⟨ecs, he, hl34, hat⟩ := hcell1 k hka
      obtain ⟨f, hf⟩ : ∃ f, f = a[k] := ⟨_, rfl⟩
      rw [← hf] at he
      obtain ⟨rfl, hsz, h32⟩ := ent_cells he
      have Hf := Lib.hid hf
      obtain ⟨z, td, dv, ⟨⟩⟩ := f
      simp only at hsz h32
      have Hrg := Lib.hid (range_below hg1 hat hB)
      have hbox := fun old => box_at wr old 58 (entV (z, td, dv, ())) (j := 0) (y := .string z) rfl
      have hbox1 := fun old => box_at wr old 58 (entV (z, td, dv, ())) (j := 1) (y := .bool td) rfl
      have Hone := Lib.hid (one_row (entV_one (z, td, dv, ())))
      have hi0 : (Tryz.prog.info? 58).map (·.size) = some 34 := by kernel_rfl
      have Hi1 := Lib.hid (show (Tryz.prog.info? 58).map (·.size) = some (entV (z, td, dv, ())).length by rw [hi0, hl34])
      have Hi2 := Lib.hid (show (Tryz.prog.info? 58).map (·.size) = some ((entV (z, td, dv, ())).toArray).size by rw [hi0, List.size_toArray, hl34])
      have Hsz := Lib.hid (show 34 = ((entV (z, td, dv, ())).toArray).size by rw [List.size_toArray, hl34])
      have Hbx := Lib.hid (fun old => boxL_made wr old 58 (entV (z, td, dv, ())))
      have H32 := Lib.hid h32
      clear he hat hcell1 hi0 h32 hl34 hf
      have hzs : z.size ≤ 1073741824 := by have := Hf.out; rw [← this] at hzz; exact hzz
      have HB := Lib.hid hB
      clear hB hzz
      have Hbad := Lib.hid (fun (h : okAt a k = false) => (show goodT a = false by
        unfold goodT; rw [all_not hka h, Bool.and_false]))
      have Hnm := Lib.hid (fun (h : nameB z = false) => (show okAt a k = false by
        unfold okAt; rw [List.getElem?_eq_getElem hka, ← Hf.out]; simp [h]))
      cases hgz : goodB z with
      | false =>
        have Hfin := Lib.hid (Hbad.out (Hnm.out (by unfold nameB; rw [hgz]; rfl)))
        have HGz := Lib.hid (HG.out z hzs)
        rw [hgz] at HGz
        clear hgz
        go_wp2_with (first | (refine wpList_load_mid rfl 58 (.tmp 13) rfl g1 (o1 + k * 34) rfl (entV (z, td, dv, ())) _ Hrg.out Tryz.underlying58 rfl Hi1.out ?_) | (refine wpList_store_rowTo rfl 58 (.tmp 4) (.tmp 14) rfl rfl wr.heap.size (entV (z, td, dv, ())).toArray rfl rfl 58 _ (heap_alloc_new wr _) Hi2.out (by rw [← Hsz.out]; rfl) Hone.out ?_))
        refine (HGz.out _ (HB.out.trans ((Hbx.out _).b.mono HB.out.size))).mono ?_
        rintro e w2 ⟨rfl, hB2⟩
        have HB2 := Lib.hid (HB.out.trans (((Hbx.out _).below hB2).b.mono HB.out.size))
        clear hB2
        go_wp2_with fail
        go_ret
        exact ⟨by rw [Hfin.out]; rfl, HB2.out⟩
      | true =>
        have HGz := Lib.hid (HG.out z hzs)
        rw [hgz] at HGz
        have HSz := Lib.hid (HS.out z hgz hzs)
        have Hgz := Lib.hid hgz
        clear hgz
        obtain ⟨n, hn⟩ : ∃ n, n = (cutB 47 z).length := ⟨_, rfl⟩
        rw [← hn] at HSz
        have Hn := Lib.hid hn
        clear hn
        by_cases h1 : n = 1
        · have Hnb := Lib.hid (show nameB z = true by unfold nameB; rw [Hgz.out, ← Hn.out, h1]; rfl)
          subst h1
          go_wp2_with (first | (refine wpList_load_mid rfl 58 (.tmp 13) rfl g1 (o1 + k * 34) rfl (entV (z, td, dv, ())) _ Hrg.out Tryz.underlying58 rfl Hi1.out ?_) | (refine wpList_store_rowTo rfl 58 (.tmp 4) (.tmp 14) rfl rfl wr.heap.size (entV (z, td, dv, ())).toArray rfl rfl 58 _ (heap_alloc_new wr _) Hi2.out (by rw [← Hsz.out]; rfl) Hone.out ?_))
          refine (HGz.out _ (HB.out.trans ((Hbx.out _).b.mono HB.out.size))).mono ?_
          rintro e w2 ⟨rfl, hB2⟩
          have HBx := Lib.hid ((Hbx.out _).below hB2)
          have kb0 := HBx.out.r 0 (.string z) rfl
          clear hB2 hbox hbox1
          go_wp2_with fail
          refine (HSz.out _ (HB.out.trans (HBx.out.b.mono HB.out.size))).mono ?_
          rintro e w3 ⟨v3, c3, rfl, hB3⟩
          have HBx3 := Lib.hid (HBx.out.below hB3)
          have kb3 := HBx3.out.r 0 (.string z) rfl
          clear hB3 kb0 Hbx
          cases k with
          | zero =>
            have Hok := Lib.hid (show okAt a 0 = true by rw [okAt_zero hka, ← Hf.out]; exact Hnb.out)
            go_wp2_with fail
            refine wp_region_class (Below w3.heap.size w3) (by kernel_rfl) (by kernel_rfl) (Below.refl _ _).drew ?_
            repeat (go_big_quiet_step (first | (intro _; rfl)))
            refine wpQuiet_nil ?_
            intro w5 hBq
            have HB5 := Lib.hid (HB.out.trans ((HBx3.out.below hBq).b.mono HB.out.size))
            clear hBq
            go_wp2_with fail
            go_roundg (gk - 1)
            case measure => omega
            case rel => exact ⟨1, by omega, by go_num, by rw [all_next, Hno.out, Hok.out]; rfl, HB5.out⟩
          | succ k =>
            obtain ⟨ecs, he, hl34, hat⟩ := HpE.out k (by omega)
            obtain ⟨f2, hf2⟩ : ∃ f, f = a[k]'(by omega) := ⟨_, rfl⟩
            rw [← hf2] at he
            obtain ⟨rfl, hsz2, -⟩ := ent_cells he
            have Hf2 := Lib.hid hf2
            obtain ⟨z2, td2, dv2, ⟨⟩⟩ := f2
            have hc0 : w.cell? ⟨g1, o1 + k * 34, none⟩ = some (.string z2) := by simpa using hat 0 (.string z2) rfl
            have HQ1 := Lib.hid (fun w1 (h1 : Below w3.heap.size w3 w1) => (by have h := ((HB.out.trans ((HBx3.out.below h1).b.mono HB.out.size)).cell (p := ⟨g1, o1 + k * 34, none⟩) hg1).trans hc0; simp [go_sem, h] : (loadVar 9 ⟨g1, o1 + k * 34, none⟩).run Tryz.prog w1 = .ok (.string z2) w1))
            have HQ2 := Lib.hid (fun w1 (h1 : Below w3.heap.size w3 w1) => (by have h := (HBx3.out.below h1).r 0 (.string z) rfl; simp [go_sem, h] : (loadVar 9 ⟨wr.heap.size, 0, none⟩).run Tryz.prog w1 = .ok (.string z) w1))
            have hix : ((k + 1 : Nat) : Int) - 1 = (k : Int) := by omega
            have hkI : (k : Int) < (len : Int) := by omega
            have hk0 : (0 : Int) < ((k + 1 : Nat) : Int) := by omega
            have Hok := Lib.hid (show okAt a (k + 1) = bl z2 z by rw [okAt_succ hka, ← Hf.out, ← Hf2.out]; rw [Hnb.out]; rfl)
            clear he hat hf2 hl34 hc0 kb3 hsz2
            cases hbl : bl z2 z with
            | true =>
              rw [hbl] at Hok
              replace hbl : Op.bytesLess z2.toList z.toList = true := hbl
              go_wp2_with fail
              refine wp_region_class (Below w3.heap.size w3) (by kernel_rfl) (by kernel_rfl) (Below.refl _ _).drew ?_
              repeat (go_big_quiet_step (first | (intro _; rfl)))
              refine wpQuiet_load_at rfl 9 (.tmp 33) rfl ⟨g1, o1 + k * 34, none⟩ rfl (.string z2) HQ1.out ?_
              simp only [Act.put, List.setIfInBounds_toArray, List.set_cons_succ, List.set_cons_zero]
              repeat (go_big_quiet_step (first | (intro _; rfl)))
              refine wpQuiet_load_at rfl 9 (.tmp 35) rfl ⟨wr.heap.size, 0, none⟩ rfl (.string z) HQ2.out ?_
              simp only [Act.put, List.setIfInBounds_toArray, List.set_cons_succ, List.set_cons_zero]
              repeat (go_big_quiet_step (first | (intro _; rfl)))
              refine wpQuiet_nil ?_
              intro w5 hBq
              have HB5 := Lib.hid (HB.out.trans ((HBx3.out.below hBq).b.mono HB.out.size))
              clear hBq
              clear hbl
              go_wp2_with fail
              go_roundg (gk - 1)
              case measure => omega
              case rel => exact ⟨k + 1 + 1, by omega, by go_num, by rw [all_next, Hno.out, Hok.out]; rfl, HB5.out⟩
            | false =>
              rw [hbl] at Hok
              replace hbl : Op.bytesLess z2.toList z.toList = false := hbl
              have Hfin := Lib.hid (Hbad.out Hok.out)
              go_wp2_with fail
              refine wp_region_class (Below w3.heap.size w3) (by kernel_rfl) (by kernel_rfl) (Below.refl _ _).drew ?_
              repeat (go_big_quiet_step (first | (intro _; rfl)))
              refine wpQuiet_load_at rfl 9 (.tmp 33) rfl ⟨g1, o1 + k * 34, none⟩ rfl (.string z2) HQ1.out ?_
              simp only [Act.put, List.setIfInBounds_toArray, List.set_cons_succ, List.set_cons_zero]
              repeat (go_big_quiet_step (first | (intro _; rfl)))
              refine wpQuiet_load_at rfl 9 (.tmp 35) rfl ⟨wr.heap.size, 0, none⟩ rfl (.string z) HQ2.out ?_
              simp only [Act.put, List.setIfInBounds_toArray, List.set_cons_succ, List.set_cons_zero]
              repeat (go_big_quiet_step (first | (intro _; rfl)))
              refine wpQuiet_nil ?_
              intro w5 hBq
              have HB5 := Lib.hid (HB.out.trans ((HBx3.out.below hBq).b.mono HB.out.size))
              clear hBq
              clear hbl
              go_wp2_with fail
              go_ret
              exact ⟨by rw [Hfin.out]; rfl, HB5.out⟩
        · have Hfin := Lib.hid (Hbad.out (Hnm.out (by unfold nameB; rw [← Hn.out, decide_eq_false h1, Bool.and_false])))
          have hn1 : ((n : Int) == 1) = false := beq_eq_false_iff_ne.2 (by omega)
          have hn2 : ¬ n = 1 := h1
          go_wp2_with (first | (refine wpList_load_mid rfl 58 (.tmp 13) rfl g1 (o1 + k * 34) rfl (entV (z, td, dv, ())) _ Hrg.out Tryz.underlying58 rfl Hi1.out ?_) | (refine wpList_store_rowTo rfl 58 (.tmp 4) (.tmp 14) rfl rfl wr.heap.size (entV (z, td, dv, ())).toArray rfl rfl 58 _ (heap_alloc_new wr _) Hi2.out (by rw [← Hsz.out]; rfl) Hone.out ?_))
          refine (HGz.out _ (HB.out.trans ((Hbx.out _).b.mono HB.out.size))).mono ?_
          rintro e w2 ⟨rfl, hB2⟩
          have HBx := Lib.hid ((Hbx.out _).below hB2)
          have kb0 := HBx.out.r 0 (.string z) rfl
          clear hB2 hbox hbox1
          go_wp2_with fail
          refine (HSz.out _ (HB.out.trans (HBx.out.b.mono HB.out.size))).mono ?_
          rintro e w3 ⟨v3, c3, rfl, hB3⟩
          have HB3 := Lib.hid (HB.out.trans ((HBx.out.below hB3).b.mono HB.out.size))
          clear hB3 kb0
          go_wp2_with fail
          go_ret
          exact ⟨by rw [Hfin.out]; rfl, HB3.out⟩
    · have hnI : ¬ (k : Int) < (len : Int) := by omega
      have Hall := Lib.hid (show (List.range a.length).all (okAt a) = true by have h := Hno.out; have e : k = a.length := (by have := Ha.out; omega); rw [e] at h; exact h)
      have Hfin := Lib.hid (show goodT a = true by unfold goodT; rw [Hall.out, decide_eq_true (by have := Ha.out; omega)]; rfl)
      go_wp2_with fail
      go_ret
      exact ⟨by rw [Hfin.out]; rfl, hB⟩


end Go.Proofs.YtdhaanaenklleaaGreatDoor
namespace Go.Proofs.YtdhaanaenklleaaGreatDoor
set_option linter.unusedVariables false
set_option linter.unusedSimpArgs false
open Go.ChangeShapes Go.WideShapes Go.ChangeAt Go.RowKit

/-- Elements of a slice's type t: of type e, n cells, by bytes. -/
structure Elt (t e : TypeId) (n by_ : Nat) {X : Type} (fl : X → List Value) : Prop where
  tu : Tryz.prog.underlying t = some (.slice e)
  el : Tryz.prog.elem t = e
  inf : ∃ i z, Tryz.prog.info? e = some i ∧ i.zero = some z ∧ i.size = n ∧ i.bytes = by_ ∧ z.cells.size = n
  pos : 0 < n
  one : ∀ x, ∀ u ∈ fl x, u.oneCell' = true
def LF {X : Type} (fl : X → List Value) (l : List X) : List Value := l.flatMap fl
section
variable {t e : TypeId} {n by_ : Nat} {X : Type} {fl : X → List Value}
theorem LF_app (a b : List X) : LF fl (a ++ b) = LF fl a ++ LF fl b := by simp [LF]
theorem LF_one (x : X) : LF fl [x] = fl x := by simp [LF]
theorem LF_len : ∀ (l : List X), (∀ x ∈ l, (fl x).length = n) → (LF fl l).length = l.length * n
  | [], _ => by simp [LF]
  | x :: l, h => by
    have : LF fl (x :: l) = fl x ++ LF fl l := rfl
    rw [this, List.length_append, h x List.mem_cons_self, LF_len l (fun y hy => h y (List.mem_cons_of_mem _ hy)), List.length_cons, Nat.add_mul]
    omega
theorem LF_at : ∀ (l : List X), (∀ x ∈ l, (fl x).length = n) → ∀ (i : Nat) (x : X), l[i]? = some x → ∀ j, j < n → (LF fl l)[i * n + j]? = (fl x)[j]?
  | [], _, i, x, hx, j, hj => by simp at hx
  | y :: l, h, 0, x, hx, j, hj => by
    obtain rfl : y = x := by simpa using hx
    have : LF fl (y :: l) = fl y ++ LF fl l := rfl
    rw [this, Nat.zero_mul, Nat.zero_add, List.getElem?_append_left (by rw [h y List.mem_cons_self]; exact hj)]
  | y :: l, h, i + 1, x, hx, j, hj => by
    have : LF fl (y :: l) = fl y ++ LF fl l := rfl
    rw [this, List.getElem?_append_right (by rw [h y List.mem_cons_self, Nat.add_mul]; omega), h y List.mem_cons_self, show (i + 1) * n + j - n = i * n + j by rw [Nat.add_mul]; omega]
    exact LF_at l (fun y hy => h y (List.mem_cons_of_mem _ hy)) i x (by simpa using hx) j hj
theorem LF_mem (E : Elt t e n by_ fl) {l : List X} {u : Value} (h : u ∈ LF fl l) : u.oneCell' = true := by
  obtain ⟨x, _, hx⟩ := List.mem_flatMap.1 h
  exact E.one x u hx
/-- Elements in memory from a place on. -/
def LAt (n : Nat) (fl : X → List Value) (w : World) (u : Value) (l : List X) : Prop := (∀ x ∈ l, (fl x).length = n) ∧
  ((∃ p cap, u = .slice p 0 cap ∧ l = []) ∨ ∃ b off cap, u = .slice (some ⟨b, off, none⟩) l.length cap ∧ b < w.heap.size ∧ l.length ≤ cap ∧ cap ≤ maxLen ∧ ∀ j x, (LF fl l)[j]? = some x → w.cell? ⟨b, off + j, none⟩ = some x)
theorem LAt.below {w w' : World} {u : Value} {l : List X} (h : LAt n fl w u l) (hB : Below w.heap.size w w') : LAt n fl w' u l := by
  refine ⟨h.1, ?_⟩
  rcases h.2 with h | ⟨b, off, cap, h1, h2, h3, h4, h5⟩
  · exact .inl h
  · exact .inr ⟨b, off, cap, h1, Nat.lt_of_lt_of_le h2 hB.size, h3, h4, fun j x hx => (hB.cell (p := ⟨b, off + j, none⟩) h2).trans (h5 j x hx)⟩
theorem LAt.own {w : World} {base : Nat} {v : Value} {l : List X} (hl : ∀ x ∈ l, (fl x).length = n) (h : w.ownsRow base e n v l.length (LF fl l)) : LAt n fl w v l := by
  refine ⟨hl, ?_⟩
  rcases h.2 with ⟨hv, hn⟩ | ⟨g, cap, cur, hv, _, hg, hcap, hmax, hsz, htake⟩
  · exact .inl ⟨_, _, hv, List.eq_nil_of_length_eq_zero hn⟩
  · refine .inr ⟨g, 0, cap, hv, lt_of_block hg, hcap, hmax, fun j x hx => ?_⟩
    have hj := (List.getElem?_eq_some_iff.1 hx).1
    rw [LF_len l hl] at hj
    rw [block_cell hg, ← hx, ← htake, List.getElem?_take_of_lt hj, Array.getElem?_toList]
    congr 1
    omega
theorem LAt.block {w : World} {B : Nat} {x : X} {cs : Array Value} (hx : (fl x).length = n) (hc : cs = (fl x).toArray) (h : w.heap[B]? = some (.cells cs e (0, 0))) : LAt n fl w (.slice (some ⟨B, 0, none⟩) 1 1) [x] := by
  refine ⟨fun y hy => by rw [List.mem_singleton.1 hy]; exact hx, .inr ⟨B, 0, 1, rfl, lt_of_block h, Nat.le_refl _, by decide, fun j y hy => ?_⟩⟩
  rw [block_cell h, hc]
  rw [LF_one] at hy
  simpa using hy
theorem LAt.rows {R : X → List Value → Prop} {w : World} {u : Value} {l : List X} (h : LAt n fl w u l) (hR : ∀ x ∈ l, R x (fl x)) : Rows w n R u l := by
  obtain ⟨hl, h⟩ := h
  rcases h with ⟨p, cap, rfl, rfl⟩ | ⟨b, off, cap, rfl, hb, hcap, hmax, hcell⟩
  · exact .inl ⟨⟨p, cap, rfl⟩, rfl⟩
  · by_cases h0 : l = []
    · subst h0; exact .inl ⟨⟨_, _, rfl⟩, rfl⟩
    refine .inr ⟨b, off, cap, rfl, List.length_pos_iff.2 h0, hcap, hmax, hb, fun i x hx => ?_⟩
    have hm := List.mem_of_getElem? hx
    refine ⟨fl x, hR x hm, hl x hm, fun j hj => ?_⟩
    have hlen := hl x hm
    have e := LF_at l hl i x hx j hj
    have hgl : (fl x)[j]? = some ((fl x)[j]'(by omega)) := List.getElem?_eq_getElem _
    rw [hgl] at e ⊢
    have := hcell (i * n + j) _ e
    rw [← Nat.add_assoc] at this
    exact this
theorem LAt.ofRows {R : X → List Value → Prop} (hn : 0 < n) (hR : ∀ x cs, R x cs → cs = fl x) {w : World} {u : Value} {l : List X} (h : Rows w n R u l) : LAt n fl w u l := by
  rcases h with ⟨⟨p, cap, rfl⟩, rfl⟩ | ⟨b, off, cap, rfl, h0, hcap, hmax, hb, hcell⟩
  · exact ⟨by simp, .inl ⟨p, cap, rfl, rfl⟩⟩
  · have hl : ∀ x ∈ l, (fl x).length = n := fun x hx => by
      obtain ⟨i, hi, rfl⟩ := List.getElem_of_mem hx
      obtain ⟨ecs, h1, h2, _⟩ := hcell i l[i] (List.getElem?_eq_getElem hi)
      rw [← hR _ _ h1]; exact h2
    refine ⟨hl, .inr ⟨b, off, cap, rfl, hb, hcap, hmax, fun j x hx => ?_⟩⟩
    have hj := (List.getElem?_eq_some_iff.1 hx).1
    rw [LF_len l hl] at hj
    have hi : j / n < l.length := Nat.div_lt_of_lt_mul (by rw [Nat.mul_comm]; exact hj)
    have hm : j % n < n := Nat.mod_lt _ hn
    have hjj : j / n * n + j % n = j := by rw [Nat.mul_comm]; exact Nat.div_add_mod j n
    obtain ⟨ecs, h1, h2, h3⟩ := hcell (j / n) l[j / n] (List.getElem?_eq_getElem hi)
    have := h3 (j % n) hm
    rw [Nat.add_assoc, hjj] at this
    rw [this, hR _ _ h1, ← LF_at l hl (j / n) l[j / n] (List.getElem?_eq_getElem hi) (j % n) hm, hjj]
    exact hx
theorem gen_add_off (b o i : Nat) : (⟨b, o, none⟩ : Addr).add i = ⟨b, o + i, none⟩ := by unfold Addr.add; split <;> simp_all
theorem gen_append_none {P : Program} {w : World} (base : Nat) (t ty e : TypeId) (i : TypeInfo) (size c : Nat) (ht : P.underlying t = some (.slice e)) (hi : P.info? e = some i)
    (v : Value) (n : Nat) (xs : List Value) (hown : w.ownsRow base e size v n xs) :
    (Builtin.append_ #[t, t] ty #[v, .slice none 0 c]).run P w = .ok v w := by
  rcases hown.2 with ⟨rfl, rfl⟩ | ⟨g, cap, cur, rfl, _, _, hnc, _⟩
  · simp [Builtin.append_, run_underlying ht, sizeOf, typeInfo, hi, Builtin.lenOf, Builtin.firstCells]
  · simp [Builtin.append_, run_underlying ht, sizeOf, typeInfo, hi, Builtin.lenOf, Builtin.firstCells, hnc, storeCells]
theorem run_append_gen (E : Elt t e n by_ fl) (w : World) (base : Nat) (v : Value) (m : Nat) (xs : List Value) (u : Value) (l : List X) (hown : w.ownsRow base e n v m xs) (hu : LAt n fl w u l) (hb : (m + l.length) * by_ ≤ 140737488355328) (hm63 : m + l.length ≤ maxLen) (hbase : base ≤ w.heap.size) :
    ∃ v' w', (Builtin.append_ #[t, t] t #[v, u]).run Tryz.prog w = .ok v' w' ∧ w'.ownsRow base e n v' (m + l.length) (xs ++ LF fl l) ∧ w.grownBy w' v.ownBlock := by
  obtain ⟨i0, z, hi, hz0, hz1, hz2, hzs⟩ := E.inf
  obtain ⟨hl, hu⟩ := hu
  rcases hu with ⟨p, cap, rfl, rfl⟩ | ⟨b, off, cap, rfl, hb2, hcap, hmax, hcell⟩
  · cases p with
    | none => exact ⟨v, w, gen_append_none base t t e i0 n cap E.tu hi v m xs hown, by simpa [LF] using hown, World.grownBy.refl _ _⟩
    | some ad =>
      obtain ⟨v', w', h1, h2, h3, _⟩ := run_append_own_at (P := Tryz.prog) w base t t e i0 z n by_ E.tu hi hz0 hz1 hz2 hzs E.pos v m xs hown ad 0 cap [] (by simp) (fun j u h => by simp at h) (fun u h => by simp at h) (by simpa using hm63) (by simpa using hb) hbase
      exact ⟨v', w', h1, by simpa [LF] using h2, h3⟩
  · obtain ⟨v', w', h1, h2, h3, _⟩ := run_append_own_at (P := Tryz.prog) w base t t e i0 z n by_ E.tu hi hz0 hz1 hz2 hzs E.pos v m xs hown ⟨b, off, none⟩ l.length cap (LF fl l) (LF_len l hl) (fun j y hj => by
      rw [gen_add_off]; exact hcell j y hj) (fun y hy => LF_mem E hy) hm63 hb hbase
    exact ⟨v', w', h1, h2, h3⟩
theorem run_append_first_gen (E : Elt t e n by_ fl) (w : World) (base B : Nat) (u : Value) (l : List X) (hB : w.heap[B]? = some (.cells #[] e (0, 0))) (hbB : base ≤ B) (hu : LAt n fl w u l) (hb : l.length * by_ ≤ 140737488355328) (hbase : base ≤ w.heap.size) :
    ∃ v' w', (Builtin.append_ #[t, t] t #[.slice (some ⟨B, 0, none⟩) 0 0, u]).run Tryz.prog w = .ok v' w' ∧ w'.ownsRow base e n v' l.length (LF fl l) ∧ Below w.heap.size w w' := by
  have hown : w.ownsRow base e n (.slice (some ⟨B, 0, none⟩) 0 0) 0 [] := ⟨by simp, .inr ⟨B, 0, #[], rfl, hbB, hB, Nat.le_refl _, by decide, by simp, by simp⟩⟩
  have hlm : l.length ≤ maxLen := by
    rcases hu.2 with ⟨p, cap, _, rfl⟩ | ⟨b, off, cap, _, _, h1, h2, _⟩
    · simp
    · omega
  obtain ⟨v', w', hr, ho, hg⟩ := run_append_gen E w base _ 0 [] u l hown hu (by simpa using hb) (by simpa using hlm) hbase
  rw [Nat.zero_add, List.nil_append] at ho
  refine ⟨v', w', hr, ho, ?_⟩
  obtain ⟨i0, z, hi, hz0, hz1, hz2, hzs⟩ := E.inf
  obtain ⟨hl, hu⟩ := hu
  rcases hu with ⟨p, cap, rfl, rfl⟩ | ⟨b, off, cap, rfl, hb2, hcap, hmax, hcell⟩
  · have hr2 : (Builtin.append_ #[t, t] t #[.slice (some ⟨B, 0, none⟩) 0 0, .slice p 0 cap]).run Tryz.prog w = .ok (.slice (some ⟨B, 0, none⟩) 0 0) w := by
      cases p <;> simp [Builtin.append_, run_underlying E.tu, sizeOf, typeInfo, hi, Builtin.lenOf, Builtin.firstCells, loadCells, loadCellsFrom, storeCells]
    rw [hr] at hr2
    cases hr2
    exact Below.refl _ _
  · by_cases h0 : l.length = 0
    · rw [h0] at hr
      have hr2 : (Builtin.append_ #[t, t] t #[.slice (some ⟨B, 0, none⟩) 0 0, .slice (some ⟨b, off, none⟩) 0 cap]).run Tryz.prog w = .ok (.slice (some ⟨B, 0, none⟩) 0 0) w := by
        simp [Builtin.append_, run_underlying E.tu, sizeOf, typeInfo, hi, Builtin.lenOf, Builtin.firstCells, loadCells, loadCellsFrom, storeCells]
      rw [hr] at hr2
      cases hr2
      exact Below.refl _ _
    · have hr2 := run_append_grow (P := Tryz.prog) w t t e i0 _ E.tu hi hz0 ⟨B, 0, none⟩ 0 0 [] (by simp) (fun j v h => by simp at h) ⟨b, off, none⟩ l.length cap (LF fl l) (by rw [LF_len l hl, hz1]) (fun j y hj => by rw [gen_add_off]; exact hcell j y hj) (by omega) (by unfold maxLen at hmax; omega) (growslice_fits (by omega) (by rw [hz2]; simpa using hb))
      rw [hr] at hr2
      cases hr2
      exact (Below.refl _ _).drew.alloc (Nat.le_refl _) _
theorem gen_addr_zero (a : Addr) : a.add 0 = a := by unfold Addr.add; simp
theorem gen_take (E : Elt t e n by_ fl) {w : World} {v : Value} {L : List X} (h : LAt n fl w v L) (k : Nat) (hk : k ≤ L.length) :
    ∃ vt, (∀ w1, (Instr.slice t v none (some (.int .i64 k)) none).run Tryz.prog w1 = .ok vt w1) ∧ LAt n fl w vt (L.take k) := by
  have hz : ∀ w1, (sizeOf e).run Tryz.prog w1 = .ok n w1 := fun w1 => by
    obtain ⟨i0, z, hi, hz0, hz1, _⟩ := E.inf
    simp [sizeOf, typeInfo, hi, hz1]
  have run : ∀ p len cap, k ≤ cap → ∀ w1, (Instr.slice t (.slice p len cap) none (some (.int .i64 k)) none).run Tryz.prog w1 = .ok (.slice p k cap) w1 := fun p len cap hc w1 => by
    rw [run_slice_h w1 t _ _ _ (by rw [E.el]; exact E.tu) .i64 k (by omega) (by omega), E.el, hz]
    simp only [Result.andThen_ok, sliced, Int.toNat_natCast, Nat.zero_mul, Nat.sub_zero]
    have : (if cap = 0 then p else p.map fun x => x.add 0) = p := by
      split
      · rfl
      · cases p with
        | none => rfl
        | some a => simp [gen_addr_zero]
    rw [this]
  obtain ⟨hl, h⟩ := h
  have hl2 : ∀ x ∈ L.take k, (fl x).length = n := fun x hx => hl x (List.mem_of_mem_take hx)
  rcases h with ⟨p, cap, rfl, rfl⟩ | ⟨b, off, cap, rfl, hb, hcap, hmax, hcell⟩
  · have hk0 : k = 0 := by simpa using hk
    subst hk0
    exact ⟨_, run p 0 cap (by omega), hl2, .inl ⟨p, cap, rfl, rfl⟩⟩
  · refine ⟨_, run _ _ cap (by omega), hl2, .inr ⟨b, off, cap, by rw [List.length_take, Nat.min_eq_left hk], hb, by rw [List.length_take]; omega, hmax, fun j x hx => hcell j x ?_⟩⟩
    have e2 : LF fl L = LF fl (L.take k) ++ LF fl (L.drop k) := by rw [← LF_app, List.take_append_drop]
    rw [e2, List.getElem?_append_left (List.getElem?_eq_some_iff.1 hx).1]
    exact hx
theorem gen_drop (E : Elt t e n by_ fl) {w : World} {v : Value} {L : List X} (h : LAt n fl w v L) (k : Nat) (hk : k ≤ L.length) :
    ∃ vt, (∀ w1, (Instr.slice t v (some (.int .i64 k)) none none).run Tryz.prog w1 = .ok vt w1) ∧ LAt n fl w vt (L.drop k) := by
  have hz : ∀ w1, (sizeOf e).run Tryz.prog w1 = .ok n w1 := fun w1 => by
    obtain ⟨i0, z, hi, hz0, hz1, _⟩ := E.inf
    simp [sizeOf, typeInfo, hi, hz1]
  obtain ⟨hl, h⟩ := h
  have hl2 : ∀ x ∈ L.drop k, (fl x).length = n := fun x hx => hl x (List.mem_of_mem_drop hx)
  rcases h with ⟨p, cap, rfl, rfl⟩ | ⟨b, off, cap, rfl, hb, hcap, hmax, hcell⟩
  · have hk0 : k = 0 := by simpa using hk
    subst hk0
    refine ⟨_, fun w1 => ?_, hl2, .inl ⟨if cap = 0 then p else p.map fun x => x.add 0, cap, rfl, rfl⟩⟩
    rw [run_slice_l w1 t _ _ _ (by rw [E.el]; exact E.tu) .i64 _ (by omega) (by omega), E.el, hz]
    simp only [Result.andThen_ok, sliced, Int.toNat_natCast, Nat.zero_mul, Nat.sub_zero]
  · have run : ∀ w1, (Instr.slice t (.slice (some ⟨b, off, none⟩) L.length cap) (some (.int .i64 k)) none none).run Tryz.prog w1 = .ok (.slice (if cap = k then some ⟨b, off, none⟩ else some ⟨b, off + k * n, none⟩) (L.length - k) (cap - k)) w1 := fun w1 => by
      rw [run_slice_l w1 t _ _ _ (by rw [E.el]; exact E.tu) .i64 k (by omega) (by omega), E.el, hz]
      simp only [Result.andThen_ok, sliced, Int.toNat_natCast, Option.map_some, gen_add_off]
    refine ⟨_, run, hl2, ?_⟩
    have hdl : (L.drop k).length = L.length - k := List.length_drop
    by_cases h0 : L.length - k = 0
    · exact .inl ⟨_, _, by rw [h0], List.eq_nil_of_length_eq_zero (by omega)⟩
    · rw [if_neg (by omega)]
      refine .inr ⟨b, off + k * n, cap - k, by rw [hdl], hb, by omega, by unfold maxLen at hmax ⊢; omega, fun j x hx => ?_⟩
      have e2 : LF fl L = LF fl (L.take k) ++ LF fl (L.drop k) := by rw [← LF_app, List.take_append_drop]
      have hlt : (LF fl (L.take k)).length = k * n := by rw [LF_len _ (fun x hx => hl x (List.mem_of_mem_take hx)), List.length_take, Nat.min_eq_left hk]
      have := hcell (k * n + j) x (by rw [e2, List.getElem?_append_right (by omega), hlt, Nat.add_sub_cancel_left]; exact hx)
      rw [Nat.add_assoc]; exact this
/-- A row of the call's own; what the call's memory is. -/
theorem gen_own_below {w w' : World} {base : Nat} {e : TypeId} {n s : Nat} {v : Value} {xs : List Value} (h : w.ownsRow base e s v n xs) (hB : Below w.heap.size w w') : w'.ownsRow base e s v n xs := by
  refine ⟨h.1, ?_⟩
  rcases h.2 with h | ⟨g, cap, cur, hv, hg, hh, rest⟩
  · exact .inl h
  · exact .inr ⟨g, cap, cur, hv, hg, (hB.block g (lt_of_block hh)).trans hh, rest⟩
structure LoG (e : TypeId) (n : Nat) (fl : X → List Value) (w : World) (L : List X) (vo : Value) (wr : World) : Prop where
  ow : wr.ownsRow w.heap.size e n vo L.length (LF fl L)
  bl : Below w.heap.size w wr
theorem LoG.below {w w1 w2 : World} {L : List X} {vo : Value} (h : LoG e n fl w L vo w1) (hB : Below w1.heap.size w1 w2) : LoG e n fl w L vo w2 := ⟨gen_own_below h.ow hB, h.bl.trans (hB.mono h.bl.size)⟩
theorem LoG.put {w w1 w2 : World} {L M : List X} {vo v' : Value} (h : LoG e n fl w L vo w1) (ho : w2.ownsRow w.heap.size e n v' M.length (LF fl M)) (hg : w1.grownBy w2 vo.ownBlock) : LoG e n fl w M v' w2 :=
  ⟨ho, h.bl.grown hg h.bl.size (fun j hj => (h.ow.lt j hj).1)⟩
structure OwnG (e : TypeId) (n : Nat) (fl : X → List Value) (base : Nat) (v4 : Value) (L : List X) (v : Value) (w : World) : Prop where
  e_ : v = v4
  o : w.ownsRow base e n v4 L.length (LF fl L)
theorem OwnG.st1 (base : Nat) (v4 : Value) (L : List X) : K2.St1 (OwnG e n fl base v4 L) := fun v w1 w2 h hB => ⟨h.e_, gen_own_below h.o hB⟩
structure RowG (e : TypeId) (n : Nat) (fl : X → List Value) (base : Nat) (L : List X) (v : Value) (w : World) : Prop where
  own : w.ownsRow base e n v L.length (LF fl L)
theorem RowG.st1 (base : Nat) (L : List X) : K2.St1 (RowG e n fl base L) := fun v w1 w2 h hB => ⟨gen_own_below h.own hB⟩
end
theorem info_elt {P : Program} {e : TypeId} {n b : Nat} (h : ((P.info? e).bind fun i => i.zero.map fun z => (i.size, i.bytes, z.cells.size)) = some (n, b, n)) : ∃ i z, P.info? e = some i ∧ i.zero = some z ∧ i.size = n ∧ i.bytes = b ∧ z.cells.size = n := by
  cases hi : P.info? e with
  | none => rw [hi] at h; cases h
  | some i =>
    rw [hi] at h
    cases hz : i.zero with
    | none => simp [hz] at h
    | some z =>
      simp [hz] at h
      exact ⟨i, z, rfl, hz, h.1, h.2.1, h.2.2⟩
theorem eltE : Elt 55 58 34 56 entV := ⟨Tryz.underlying55, by kernel_rfl, info_elt (by kernel_rfl), by decide, entV_one⟩
end Go.Proofs.YtdhaanaenklleaaGreatDoor
