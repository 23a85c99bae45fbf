/- Files are copied; Build's own functions; Compare, and Build's order, where the world only grows; Where the first file is for which something holds; how many lie below a directory; How many of the first files lie below a directory; What is wrong with files. -/
import Derived.Test.YtdhaanaenklleaaGreatDoorQ5
import Derived.Test.YtdhaanaenklleaaGreatDoorQ6
import Derived.Test.YtdhaanaenklleaaGreatDoorQ2
import Derived.Sort.Grow
import Derived.Deep.Draws
namespace Go.Proofs.YtdhaanaenklleaaGreatDoor
set_option linter.unusedVariables false
set_option linter.unusedSimpArgs false
open Go.ChangeShapes Go.WideShapes Go.ChangeAt Go.RowKit

theorem eltF : Elt 22 44 2 32 filV := ⟨Tryz.underlying22, by kernel_rfl, info_elt (by kernel_rfl), by decide, filV_one⟩
theorem eq_nil57 (p : Option Addr) (n c : Nat) (w : World) : (binOp .eql 22 (.slice p n c) (.slice none 0 0)).run Tryz.prog w = .ok (.bool p.isNone) w := by
  simp [binOp, go_sem, run_equal_slice_nil w 22 44 p n c Tryz.underlying22]
set_option maxRecDepth 100000 in
set_option maxHeartbeats 1000000 in
theorem cloneF_any (v : Value) (l : List Fil) (w : World) (hv : LAt 2 filV w v l) (hl : l.length ≤ 65536) : Calls Tryz.prog 34 #[v] w fun e w' => ∃ r, e = .returned r ∧ w'.ownsRow w.heap.size 44 2 r l.length (LF filV l) ∧ Below w.heap.size w w' := by
  have hv0 := hv
  obtain ⟨p, c, rfl, hp⟩ : ∃ p c, v = .slice p l.length c ∧ (p = none → l = []) := by
    rcases hv.2 with ⟨p, c, rfl, rfl⟩ | ⟨g, off, c, rfl, _⟩
    · exact ⟨p, c, rfl, fun _ => rfl⟩
    · exact ⟨_, c, rfl, fun h => by cases h⟩
  have HV := Lib.hid hv0
  cases p with
  | none =>
    have hl0 := hp rfl
    subst hl0
    have HB := Lib.hid (Below.refl w.heap.size w)
    clear hv hv0 hp
    have hnil : ∀ w1, (binOp .eql 22 (.slice none 0 c) (.slice none 0 0)).run Tryz.prog w1 = .ok (.bool true) w1 := fun w1 => eq_nil57 none 0 c w1
    change Calls Tryz.prog 34 #[.slice none 0 c] w _
    go_enter Tryz.func34, Tryz.ntmps34
    go_wp2_with fail
    go_ret
    exact ⟨_, rfl, ⟨rfl, .inl ⟨rfl, rfl⟩⟩, HB.out⟩
  | some ad =>
    have hB1 := (Below.refl w.heap.size w).alloc (Nat.le_refl _) (.cells #[] 44)
    have hN1 := heap_alloc_new w (.cells #[] 44)
    have HV1 := Lib.hid (hv0.below hB1)
    have HB1 := Lib.hid hB1
    have HN1 := Lib.hid hN1
    obtain ⟨ln, hln⟩ : ∃ ln, ln = l.length := ⟨_, rfl⟩
    rw [← hln] at HV1 ⊢
    have hln2 : ln ≤ 65536 := by omega
    have Hln := Lib.hid hln
    clear hv hv0 hp hB1 hN1 HV hln hl
    have hnil : ∀ w1, (binOp .eql 22 (.slice (some ad) ln c) (.slice none 0 0)).run Tryz.prog w1 = .ok (.bool false) w1 := fun w1 => eq_nil57 _ _ _ w1
    go_enter Tryz.func34, Tryz.ntmps34
    go_wp2_with (at_builtin; go_must (refine wpList_append_first eltF rfl (.tmp 5) (.tmp 6) rfl rfl w.heap.size w.heap.size rfl HN1.out (Nat.le_refl _) _ l HV1.out rfl (by have := Hln.out; omega) HB1.out.size ?_); intro v4 w4 hown4 hB4)
    go_ret
    exact ⟨v4, rfl, by have h := Hln.out; rw [h]; exact hown4, HB1.out.trans (hB4.mono HB1.out.size)⟩
set_option maxRecDepth 100000 in
set_option maxHeartbeats 1000000 in
theorem long66_any (x : Fil) (w : World) : Calls Tryz.prog 40 #[.agg (filV x).toArray] w fun e w' => e = .returned (.bool (decide (32768 < x.2.1.size))) ∧ Below w.heap.size w w' := by
  obtain ⟨p, d, ⟨⟩⟩ := x
  show Calls Tryz.prog 40 #[.agg #[.string p, .string d]] w _
  dsimp only
  have hnew := heap_alloc_new w (.cells #[.string p, .string d] 44)
  have HB := Lib.hid ((Below.refl w.heap.size w).alloc (Nat.le_refl _) (.cells #[.string p, .string d] 44))
  have hc1 := block_cell hnew 1
  by_cases h : 32768 < d.size
  · have hI : (32768 : Int) < (d.size : Int) := by omega
    rw [decide_eq_true h]
    go_enter Tryz.func40, Tryz.ntmps40
    go_wp2_with fail
    go_ret
    exact ⟨rfl, HB.out⟩
  · have hI : ¬ (32768 : Int) < (d.size : Int) := by omega
    rw [decide_eq_false h]
    go_enter Tryz.func40, Tryz.ntmps40
    go_wp2_with fail
    go_ret
    exact ⟨rfl, HB.out⟩
set_option maxRecDepth 100000 in
set_option maxHeartbeats 1000000 in
theorem less62_any (x y : Fil) (w : World) (hM : MaxAt w) (hx : x.1.size ≤ 1073741824) (hy : y.1.size ≤ 1073741824) : Calls Tryz.prog 36 #[.agg (filV x).toArray, .agg (filV y).toArray] w fun e w' => e = .returned (.int .i64 (cmpP x.1 y.1)) ∧ Below w.heap.size w w' := by
  obtain ⟨p, d, ⟨⟩⟩ := x
  obtain ⟨q, f, ⟨⟩⟩ := y
  show Calls Tryz.prog 36 #[.agg #[.string p, .string d], .agg #[.string q, .string f]] w _
  dsimp only at hx hy ⊢
  have HB1 := (Below.refl w.heap.size w).alloc (Nat.le_refl _) (.cells #[.string p, .string d] 44)
  have HB2 := (Below.refl (w.alloc (.cells #[.string p, .string d] 44)).heap.size (w.alloc (.cells #[.string p, .string d] 44))).alloc (Nat.le_refl _) (.cells #[.string q, .string f] 44)
  have hn1 := heap_alloc_new w (.cells #[.string p, .string d] 44)
  have hn2 := heap_alloc_new (w.alloc (.cells #[.string p, .string d] 44)) (.cells #[.string q, .string f] 44)
  have HB := Lib.hid (HB1.trans (HB2.mono HB1.size))
  have hl1 := (HB2.block _ (lt_of_block hn1)).trans hn1
  have hc1 := block_cell hl1 0
  have hc2 := block_cell hn2 0
  have hs1 : (w.alloc (.cells #[.string p, .string d] 44)).heap.size = w.heap.size + 1 := by simp
  have HC := Lib.hid (fun w1 (h1 : Below w.heap.size w w1) => (by obtain ⟨m, hm⟩ := (hM.below h1).2; exact (pcmp_any p q m w1 hm hx hy).mono (fun e w2 hh => (⟨hh.1, h1.trans (hh.2.mono h1.size)⟩ : e = .returned (.int .i64 (cmpP p q)) ∧ Below w.heap.size w w2)) : Calls Tryz.prog 37 #[.string p, .string q] w1 fun e w2 => e = .returned (.int .i64 (cmpP p q)) ∧ Below w.heap.size w w2))
  clear hM hl1 hn1 hn2 HB1 HB2
  rw [hs1] at hc2
  obtain ⟨r, hr⟩ : ∃ r, r = cmpP p q := ⟨_, rfl⟩
  rw [← hr] at HC ⊢
  clear hr
  go_enter Tryz.func36, Tryz.ntmps36
  go_wp2_with fail
  refine (HC.out _ HB.out).mono ?_
  rintro e w2 ⟨rfl, hB2⟩
  go_wp2_with fail
  go_ret
  exact ⟨rfl, hB2⟩
end Go.Proofs.YtdhaanaenklleaaGreatDoor
namespace Go.Proofs.YtdhaanaenklleaaGreatDoor
set_option linter.unusedVariables false
set_option linter.unusedSimpArgs false
open Go.ChangeShapes Go.WideShapes Go.ChangeAt Go.RowKit

/-- Draws, and blocks laid behind. -/
def Gr (w w' : World) : Prop := ∃ (q : Nat) (os : Array Obj), w' = Go.Sort.grow (w.drewN q) os
theorem Gr.refl (w : World) : Gr w w := ⟨0, #[], by rw [Go.Sort.grow_empty]; rfl⟩
theorem Gr.alloc (w : World) (o : Obj) : Gr w (w.alloc o) := ⟨0, #[o], Go.Sort.alloc_eq_grow w o⟩
theorem Gr.drew (w : World) : Gr w w.drew := ⟨1, #[], by rw [Go.Sort.grow_empty]; rfl⟩
theorem Gr.trans {a b c : World} (h : Gr a b) (k : Gr b c) : Gr a c := by
  obtain ⟨q, os, rfl⟩ := h
  obtain ⟨r, ps, rfl⟩ := k
  refine ⟨q + r, os ++ ps, ?_⟩
  show Go.Sort.grow (Go.Sort.grow ((a.drewN q).drewN r) os) ps = _
  rw [Go.Sort.grow_grow, World.drewN_drewN]
theorem split_ownG (s : ByteArray) (m : Int) (w : World) (hs : s.size ≤ 1073741824) (hm : w.cell? ⟨1, 0, none⟩ = some (.int .i64 m)) :
    Calls Tryz.prog 86 #[.string s, .string ⟨#[47]⟩] w fun e w' => ∃ v, e = .returned v ∧ w'.ownsRow w.heap.size 9 1 v (cutB 47 s).length ((cutB 47 s).map Value.string) ∧ Below w.heap.size w w' ∧ Gr w w' := by
  refine (Tryz.strings_Split s (mkB [47]) m w (by omega) hm (by decide)).mono ?_
  rintro e w' ⟨rfl, rfl⟩
  rw [splitB_cut, ← cutB_len]
  have hl := cnt_len (cutB 47 s)
  rw [cutB_cnt] at hl
  exact ⟨_, rfl, row_of_alloc _ _ (by unfold maxLen; omega), (Below.refl _ w).alloc (Nat.le_refl _) _, Gr.alloc _ _⟩

theorem psplitG (s : ByteArray) (m : Int) (w : World) (hs : s.size ≤ 1073741824) (hm : w.cell? ⟨1, 0, none⟩ = some (.int .i64 m)) :
    Calls Tryz.prog 59 #[.string s] w fun e w' => ∃ v, e = .returned v ∧ w'.ownsRow w.heap.size 9 1 v (splitL s).length ((splitL s).map Value.string) ∧ Below w.heap.size w w' ∧ Gr w w' := by
  unfold splitL
  have HS := Lib.hid (fun (w1 : World) (h : w1 = w) => h ▸ split_ownG s m w hs hm)
  cases hs1 : some1 s with
  | false =>
    have e := empty_of s hs1
    have h1 : (!s.toList.isEmpty) = false := by rw [e, Lib.toList_data]; rfl
    have h2 : (s.toList == ([] : List UInt8)) = true := by rw [e, Lib.toList_data]; rfl
    clear e hs1
    go_enter Tryz.func59, Tryz.ntmps59
    go_wp2_with fail
    go_ret
    exact ⟨_, rfl, World.ownsRow_nil _ _ _ _, Below.refl _ _, Gr.refl _⟩
  | true =>
    have n1 := toList_some s hs1
    have n2 : (s.toList == ([] : List UInt8)) = false := by
      have := toList_empty s hs1
      rw [Lib.toList_data ⟨#[]⟩] at this
      exact this
    clear hs1
    rw [if_pos rfl]
    go_enter Tryz.func59, Tryz.ntmps59
    go_wp2_with fail
    refine (HS.out _ rfl).mono ?_
    rintro e w1 ⟨v, rfl, hv, hB⟩
    go_wp2_with fail
    go_ret
    exact ⟨_, rfl, hv, hB⟩
theorem pcmpG (a b : ByteArray) (m : Int) (w : World) (hm : w.cell? ⟨1, 0, none⟩ = some (.int .i64 m)) (ha : a.size ≤ 1073741824) (hb : b.size ≤ 1073741824) :
    Calls Tryz.prog 37 #[.string a, .string b] w fun e w' => e = .returned (.int .i64 (cmpP a b)) ∧ Below w.heap.size w w' ∧ Gr w w' := by
  have h0 : 1 < w.heap.size := by
    have := World.block_lt_of_cell? w _ hm
    simpa using this
  have h1 := splitL_len a
  have h2 := splitL_len b
  have H1 := Lib.hid (psplitG a m w ha hm)
  have H2 := Lib.hid (fun (w1 : World) (hB : Below w.heap.size w w1) => psplitG b m w1 hb ((hB.cell (p := ⟨1, 0, none⟩) h0).trans hm))
  have He := Lib.hid (show cmpP a b = cmpL (splitL a) (splitL b) from rfl)
  generalize splitL a = x at *
  generalize splitL b = y at *
  generalize cmpP a b = r at *
  go_enter Tryz.func37, Tryz.ntmps37
  go_wp2_with fail
  refine H1.out.mono ?_
  rintro e w1 ⟨v, rfl, hv, hB, hG⟩
  have hsv := Strs.ofRow hv
  clear hv
  go_wp2_with fail
  refine (H2.out _ hB).mono ?_
  rintro e w2 ⟨u, rfl, hu, hB2, hG2⟩
  have hsu := Strs.ofRow hu
  have hsv2 := hsv.below hB2
  have HGr := Lib.hid (hG.trans hG2)
  clear hG hG2
  replace hB := hB.trans (hB2.mono hB.size)
  clear hu hsv hB2
  go_wp2_with fail
  refine (scmp_any v u x y w2 hsv2 hsu (by omega) (by omega)).mono ?_
  rintro e w3 ⟨rfl, rfl⟩
  go_wp2_with fail
  go_ret
  exact ⟨by rw [He.out]; rfl, hB, HGr.out⟩

set_option maxRecDepth 100000 in
set_option maxHeartbeats 1000000 in
theorem less62G (x y : Fil) (w : World) (hM : MaxAt w) (hx : x.1.size ≤ 1073741824) (hy : y.1.size ≤ 1073741824) : Calls Tryz.prog 36 #[.agg (filV x).toArray, .agg (filV y).toArray] w fun e w' => e = .returned (.int .i64 (cmpP x.1 y.1)) ∧ Below w.heap.size w w' ∧ Gr w w' := by
  obtain ⟨p, d, ⟨⟩⟩ := x
  obtain ⟨q, f, ⟨⟩⟩ := y
  show Calls Tryz.prog 36 #[.agg #[.string p, .string d], .agg #[.string q, .string f]] w _
  dsimp only at hx hy ⊢
  have HB1 := (Below.refl w.heap.size w).alloc (Nat.le_refl _) (.cells #[.string p, .string d] 44)
  have HB2 := (Below.refl (w.alloc (.cells #[.string p, .string d] 44)).heap.size (w.alloc (.cells #[.string p, .string d] 44))).alloc (Nat.le_refl _) (.cells #[.string q, .string f] 44)
  have hn1 := heap_alloc_new w (.cells #[.string p, .string d] 44)
  have hn2 := heap_alloc_new (w.alloc (.cells #[.string p, .string d] 44)) (.cells #[.string q, .string f] 44)
  have HB := Lib.hid (HB1.trans (HB2.mono HB1.size))
  have HGr := Lib.hid ((Gr.alloc w (.cells #[.string p, .string d] 44)).trans (Gr.alloc _ (.cells #[.string q, .string f] 44)))
  have hl1 := (HB2.block _ (lt_of_block hn1)).trans hn1
  have hc1 := block_cell hl1 0
  have hc2 := block_cell hn2 0
  have hs1 : (w.alloc (.cells #[.string p, .string d] 44)).heap.size = w.heap.size + 1 := by simp
  have HC := Lib.hid (fun w1 (h1 : Below w.heap.size w w1) (hg1 : Gr w w1) => (by obtain ⟨m, hm⟩ := (hM.below h1).2; exact (pcmpG p q m w1 hm hx hy).mono (fun e w2 hh => (⟨hh.1, h1.trans (hh.2.1.mono h1.size), hg1.trans hh.2.2⟩ : e = .returned (.int .i64 (cmpP p q)) ∧ Below w.heap.size w w2 ∧ Gr w w2)) : Calls Tryz.prog 37 #[.string p, .string q] w1 fun e w2 => e = .returned (.int .i64 (cmpP p q)) ∧ Below w.heap.size w w2 ∧ Gr w w2))
  clear hM hl1 hn1 hn2 HB1 HB2
  rw [hs1] at hc2
  obtain ⟨r, hr⟩ : ∃ r, r = cmpP p q := ⟨_, rfl⟩
  rw [← hr] at HC ⊢
  clear hr
  go_enter Tryz.func36, Tryz.ntmps36
  go_wp2_with fail
  refine (HC.out _ HB.out HGr.out).mono ?_
  rintro e w2 ⟨rfl, hB2, hG2⟩
  go_wp2_with fail
  go_ret
  exact ⟨rfl, hB2, hG2⟩
end Go.Proofs.YtdhaanaenklleaaGreatDoor
namespace Go.Proofs.YtdhaanaenklleaaGreatDoor
set_option linter.unusedVariables false
set_option linter.unusedSimpArgs false
open Go.ChangeShapes Go.WideShapes Go.ChangeAt Go.RowKit

/-- The first place where it holds; -1: there is none. -/
def Idx (pr : Fil → Bool) (l : List Fil) (k : Int) : Prop :=
  (k = -1 ∧ ∀ x ∈ l, pr x = false) ∨ ∃ i : Nat, k = i ∧ i < l.length ∧ (∀ j, j < i → ∀ x, l[j]? = some x → pr x = false) ∧ ∃ x, l[i]? = some x ∧ pr x = true
theorem Idx.any {pr : Fil → Bool} {l : List Fil} {k : Int} (h : Idx pr l k) : decide (0 ≤ k) = l.any pr := by
  rcases h with ⟨rfl, h⟩ | ⟨i, rfl, hi, h, x, hx, hp⟩
  · symm
    rw [show decide ((0 : Int) ≤ -1) = false from rfl, List.any_eq_false]
    intro x hx
    simp [h x hx]
  · rw [decide_eq_true (by omega), eq_comm, List.any_eq_true]
    exact ⟨x, List.mem_of_getElem? hx, hp⟩
set_option maxRecDepth 100000 in
set_option maxHeartbeats 1000000 in
theorem out123_any (bx : Nat) (d : ByteArray) (x : Fil) (w : World) (hb : bx < w.heap.size) (h : w.cell? ⟨bx, 0, none⟩ = some (.string d)) :
    Calls Tryz.prog 91 #[.agg (filV x).toArray, .pointer (some ⟨bx, 0, none⟩)] w fun e w' => e = .returned (.bool (!(underB d x.1).2)) ∧ Below w.heap.size w w' := by
  obtain ⟨p, dt, ⟨⟩⟩ := x
  show Calls Tryz.prog 91 #[.agg #[.string p, .string dt], .pointer (some ⟨bx, 0, none⟩)] w _
  dsimp only
  have hnew := heap_alloc_new w (.cells #[.string p, .string dt] 44)
  have hBa := (Below.refl w.heap.size w).alloc (Nat.le_refl _) (.cells #[.string p, .string dt] 44)
  have HB := Lib.hid hBa
  have hc0 := block_cell hnew 0
  have hc1 := (hBa.cell (p := ⟨bx, 0, none⟩) hb).trans h
  have HU := Lib.hid (fun w1 => under_any d p w1)
  obtain ⟨ur, hur⟩ : ∃ ur, ur = (underB d p).1 := ⟨_, rfl⟩
  obtain ⟨ub, hub⟩ : ∃ ub, ub = (underB d p).2 := ⟨_, rfl⟩
  unfold Under2 at HU
  rw [← hur, ← hub] at HU
  rw [← hub]
  clear hBa hnew h hur hub
  go_enter Tryz.func91, Tryz.ntmps91
  go_wp2_with fail
  refine (HU.out _).mono ?_
  rintro e w1 ⟨rfl, hw1⟩
  subst hw1
  go_wp2_with fail
  go_ret
  exact ⟨rfl, HB.out⟩
set_option maxRecDepth 100000 in
set_option maxHeartbeats 2000000 in
theorem index66_any (l : List Fil) (v : Value) (w : World) (hv : Rows w 2 filR v l) (hl : l.length ≤ 16777216) :
    Calls Tryz.prog 62 #[v, .func (.func 40) #[] #[]] w fun e w' => ∃ k : Int, e = .returned (.int .i64 k) ∧ Idx (fun x => decide (32768 < x.2.1.size)) l k ∧ Below w.heap.size w w' := by
  obtain ⟨pr, hpr⟩ : ∃ pr : Fil → Bool, pr = (fun x => decide (32768 < x.2.1.size)) := ⟨_, rfl⟩
  rw [← hpr]
  have HC := Lib.hid (fun (x : Fil) w1 (h1 : Below w.heap.size w w1) => (by rw [hpr]; exact (long66_any x w1).mono (fun e w2 hh => (⟨hh.1, h1.trans (hh.2.mono h1.size)⟩ : _ ∧ Below w.heap.size w w2)) : Calls Tryz.prog 40 (#[.agg (filV x).toArray] ++ #[]) w1 fun e w2 => e = .returned (.bool (pr x)) ∧ Below w.heap.size w w2))
  clear hpr
  obtain ⟨len, hll⟩ : ∃ len, len = l.length := ⟨_, rfl⟩
  obtain ⟨p, cap, rfl, hp⟩ := hv.elem hll
  have Hp := Lib.hid hp
  have Ha := Lib.hid hll
  have hlen : len ≤ 16777216 := by omega
  clear hv hp hll
  go_enter Tryz.func62, Tryz.ntmps62
  go_wp2_with fail
  go_loopg [5, 8] len (fun g _ iv wr => ∃ i : Nat, i + g = len ∧ iv = .int .i64 i ∧ Hid (∀ j, j < i → ∀ x : Fil, l[j]? = some x → pr x = false) ∧ Below w.heap.size w wr)
  case atStart => exact ⟨0, by omega, rfl, Lib.hid (fun j h => absurd h (Nat.not_lt_zero _)), Below.refl _ _⟩
  case round =>
    obtain ⟨i, hig, rfl, HA, hBr⟩ := hrel
    have HBr := Lib.hid hBr
    clear hBr
    by_cases hi : i < len
    case neg =>
      have hiI : ¬ (i : Int) < (len : Int) := by omega
      go_wp2_with fail
      go_ret
      refine ⟨-1, rfl, .inl ⟨rfl, fun x hx => ?_⟩, HBr.out⟩
      obtain ⟨j, hj⟩ := List.mem_iff_getElem?.1 hx
      exact HA.out j (by have := (List.getElem?_eq_some_iff.1 hj).1; have := Ha.out; omega) x hj
    have hiI : (i : Int) < (len : Int) := by omega
    have hka : i < l.length := by have := Ha.out; omega
    obtain ⟨g1, o1, rfl, hg1, hcap1, hmax1, hcell1⟩ := Hp.out (by omega)
    obtain ⟨ecs, he, hl34, hat⟩ := hcell1 i hka
    obtain ⟨f, hf⟩ : ∃ f, f = l[i] := ⟨_, rfl⟩
    have hxi : l[i]? = some f := by rw [hf]; exact List.getElem?_eq_getElem hka
    rw [← hf] at he
    obtain ⟨rfl, hsz, hsd⟩ := fil_cells he
    have Hrg := Lib.hid (range_below hg1 hat HBr.out)
    have hi0 : (Tryz.prog.info? 44).map (·.size) = some 2 := by kernel_rfl
    have Hi1 := Lib.hid (show (Tryz.prog.info? 44).map (·.size) = some (filV f).length by rw [hi0, hl34])
    have HX := Lib.hid hxi
    have HCx := Lib.hid (HC.out f wr HBr.out)
    clear hxi he hat hcell1 hi0 hl34 hf hsz hsd
    cases hq : pr f with
    | true =>
      rw [hq] at HCx
      have Hq := Lib.hid hq
      clear hq
      go_wp2_with (first | (refine wpList_load_mid rfl 44 (.tmp 14) rfl g1 (o1 + i * 2) rfl (filV f) _ Hrg.out Tryz.underlying44 rfl Hi1.out ?_))
      refine HCx.out.mono ?_
      rintro e w' ⟨rfl, hb'⟩
      go_wp2_with fail
      go_ret
      exact ⟨i, rfl, .inr ⟨i, rfl, hka, fun j hj x hx => HA.out j hj x hx, f, HX.out, Hq.out⟩, hb'⟩
    | false =>
      rw [hq] at HCx
      have Hq := Lib.hid hq
      clear hq
      go_wp2_with (first | (refine wpList_load_mid rfl 44 (.tmp 14) rfl g1 (o1 + i * 2) rfl (filV f) _ Hrg.out Tryz.underlying44 rfl Hi1.out ?_))
      refine HCx.out.mono ?_
      rintro e w' ⟨rfl, hb'⟩
      go_wp2_with fail
      go_roundg (gk - 1)
      case measure => omega
      case rel =>
        refine ⟨i + 1, by omega, by go_num, Lib.hid (fun j hj z hz => ?_), hb'⟩
        by_cases he : j = i
        · subst he
          have h2 := HX.out
          rw [hz] at h2
          injection h2 with h2
          rw [h2]
          exact Hq.out
        · exact HA.out j (by omega) z hz
set_option maxRecDepth 100000 in
set_option maxHeartbeats 2000000 in
theorem index123_any (bx : Nat) (d : ByteArray) (l : List Fil) (v : Value) (w : World) (hb : bx < w.heap.size) (hbc : w.cell? ⟨bx, 0, none⟩ = some (.string d)) (hv : Rows w 2 filR v l) (hl : l.length ≤ 16777216) :
    Calls Tryz.prog 62 #[v, .func (.func 91) #[] #[.pointer (some ⟨bx, 0, none⟩)]] w fun e w' => ∃ k : Int, e = .returned (.int .i64 k) ∧ Idx (fun x => !(underB d x.1).2) l k ∧ Below w.heap.size w w' := by
  obtain ⟨pr, hpr⟩ : ∃ pr : Fil → Bool, pr = (fun x => !(underB d x.1).2) := ⟨_, rfl⟩
  rw [← hpr]
  have HC := Lib.hid (fun (x : Fil) w1 (h1 : Below w.heap.size w w1) => (by rw [hpr]; exact (out123_any bx d x w1 (Nat.lt_of_lt_of_le hb h1.size) ((h1.cell (p := ⟨bx, 0, none⟩) hb).trans hbc)).mono (fun e w2 hh => (⟨hh.1, h1.trans (hh.2.mono h1.size)⟩ : _ ∧ Below w.heap.size w w2)) : Calls Tryz.prog 91 (#[.agg (filV x).toArray] ++ #[.pointer (some ⟨bx, 0, none⟩)]) w1 fun e w2 => e = .returned (.bool (pr x)) ∧ Below w.heap.size w w2))
  clear hpr
  obtain ⟨len, hll⟩ : ∃ len, len = l.length := ⟨_, rfl⟩
  obtain ⟨p, cap, rfl, hp⟩ := hv.elem hll
  have Hp := Lib.hid hp
  have Ha := Lib.hid hll
  have hlen : len ≤ 16777216 := by omega
  clear hv hp hll hb hbc
  go_enter Tryz.func62, Tryz.ntmps62
  go_wp2_with fail
  go_loopg [5, 8] len (fun g _ iv wr => ∃ i : Nat, i + g = len ∧ iv = .int .i64 i ∧ Hid (∀ j, j < i → ∀ x : Fil, l[j]? = some x → pr x = false) ∧ Below w.heap.size w wr)
  case atStart => exact ⟨0, by omega, rfl, Lib.hid (fun j h => absurd h (Nat.not_lt_zero _)), Below.refl _ _⟩
  case round =>
    obtain ⟨i, hig, rfl, HA, hBr⟩ := hrel
    have HBr := Lib.hid hBr
    clear hBr
    by_cases hi : i < len
    case neg =>
      have hiI : ¬ (i : Int) < (len : Int) := by omega
      go_wp2_with fail
      go_ret
      refine ⟨-1, rfl, .inl ⟨rfl, fun x hx => ?_⟩, HBr.out⟩
      obtain ⟨j, hj⟩ := List.mem_iff_getElem?.1 hx
      exact HA.out j (by have := (List.getElem?_eq_some_iff.1 hj).1; have := Ha.out; omega) x hj
    have hiI : (i : Int) < (len : Int) := by omega
    have hka : i < l.length := by have := Ha.out; omega
    obtain ⟨g1, o1, rfl, hg1, hcap1, hmax1, hcell1⟩ := Hp.out (by omega)
    obtain ⟨ecs, he, hl34, hat⟩ := hcell1 i hka
    obtain ⟨f, hf⟩ : ∃ f, f = l[i] := ⟨_, rfl⟩
    have hxi : l[i]? = some f := by rw [hf]; exact List.getElem?_eq_getElem hka
    rw [← hf] at he
    obtain ⟨rfl, hsz, hsd⟩ := fil_cells he
    have Hrg := Lib.hid (range_below hg1 hat HBr.out)
    have hi0 : (Tryz.prog.info? 44).map (·.size) = some 2 := by kernel_rfl
    have Hi1 := Lib.hid (show (Tryz.prog.info? 44).map (·.size) = some (filV f).length by rw [hi0, hl34])
    have HX := Lib.hid hxi
    have HCx := Lib.hid (HC.out f wr HBr.out)
    clear hxi he hat hcell1 hi0 hl34 hf hsz hsd
    cases hq : pr f with
    | true =>
      rw [hq] at HCx
      have Hq := Lib.hid hq
      clear hq
      go_wp2_with (first | (refine wpList_load_mid rfl 44 (.tmp 14) rfl g1 (o1 + i * 2) rfl (filV f) _ Hrg.out Tryz.underlying44 rfl Hi1.out ?_))
      refine HCx.out.mono ?_
      rintro e w' ⟨rfl, hb'⟩
      go_wp2_with fail
      go_ret
      exact ⟨i, rfl, .inr ⟨i, rfl, hka, fun j hj x hx => HA.out j hj x hx, f, HX.out, Hq.out⟩, hb'⟩
    | false =>
      rw [hq] at HCx
      have Hq := Lib.hid hq
      clear hq
      go_wp2_with (first | (refine wpList_load_mid rfl 44 (.tmp 14) rfl g1 (o1 + i * 2) rfl (filV f) _ Hrg.out Tryz.underlying44 rfl Hi1.out ?_))
      refine HCx.out.mono ?_
      rintro e w' ⟨rfl, hb'⟩
      go_wp2_with fail
      go_roundg (gk - 1)
      case measure => omega
      case rel =>
        refine ⟨i + 1, by omega, by go_num, Lib.hid (fun j hj z hz => ?_), hb'⟩
        by_cases he : j = i
        · subst he
          have h2 := HX.out
          rw [hz] at h2
          injection h2 with h2
          rw [h2]
          exact Hq.out
        · exact HA.out j (by omega) z hz
set_option maxRecDepth 100000 in
set_option maxHeartbeats 1000000 in
theorem contains65_any (l : List Fil) (v : Value) (w : World) (hv : Rows w 2 filR v l) (hl : l.length ≤ 16777216) :
    Calls Tryz.prog 39 #[v, .func (.func 40) #[] #[]] w fun e w' => e = .returned (.bool (l.any fun x => decide (32768 < x.2.1.size))) ∧ Below w.heap.size w w' := by
  have HI := Lib.hid (index66_any l v w hv hl)
  clear hv
  go_enter Tryz.func39, Tryz.ntmps39
  go_wp2_with fail
  refine HI.out.mono ?_
  rintro e w1 ⟨k, rfl, hi, hB⟩
  have Hi := Lib.hid hi.any
  clear hi
  go_wp2_with fail
  go_ret
  exact ⟨by rw [← Hi.out]; rfl, hB⟩
end Go.Proofs.YtdhaanaenklleaaGreatDoor
namespace Go.Proofs.YtdhaanaenklleaaGreatDoor
set_option linter.unusedVariables false
set_option linter.unusedSimpArgs false
open Go.ChangeShapes Go.WideShapes Go.ChangeAt Go.RowKit

def belowN (d : ByteArray) (l : List Fil) : Nat := (l.takeWhile (fun x => (underB d x.1).2)).length
theorem take_idx {pr : Fil → Bool} : ∀ {l : List Fil} {i : Nat}, (∀ j, j < i → ∀ x, l[j]? = some x → pr x = false) → (∃ x, l[i]? = some x ∧ pr x = true) → (l.takeWhile fun x => !pr x).length = i
  | [], i, _, ⟨x, h, _⟩ => by simp at h
  | y :: r, 0, _, ⟨x, h, hp⟩ => by
    simp only [List.getElem?_cons_zero, Option.some.injEq] at h
    subst h
    simp [List.takeWhile, hp]
  | y :: r, i + 1, h1, ⟨x, h, hp⟩ => by
    have hy := h1 0 (by omega) y rfl
    have ih := take_idx (pr := pr) (l := r) (i := i) (fun j hj z hz => h1 (j + 1) (by omega) z (by simpa using hz)) ⟨x, by simpa using h, hp⟩
    simp [List.takeWhile, hy, ih]
theorem take_all {pr : Fil → Bool} {l : List Fil} (h : ∀ x ∈ l, pr x = false) : (l.takeWhile fun x => !pr x).length = l.length := by
  induction l with
  | nil => rfl
  | cons y r ih =>
    have hy := h y List.mem_cons_self
    simp [List.takeWhile, hy, ih (fun x hx => h x (List.mem_cons_of_mem _ hx))]
theorem belowN_idx {d : ByteArray} {l : List Fil} {k : Int} (h : Idx (fun x => !(underB d x.1).2) l k) : (belowN d l : Int) = if k < 0 then (l.length : Int) else k := by
  have e : belowN d l = (l.takeWhile fun x => !(fun x : Fil => !(underB d x.1).2) x).length := by
    unfold belowN
    simp
  rw [e]
  rcases h with ⟨rfl, h⟩ | ⟨i, rfl, hi, h, hx⟩
  · rw [take_all h]; rfl
  · rw [take_idx h hx, if_neg (by omega)]
set_option maxRecDepth 100000 in
set_option maxHeartbeats 1000000 in
theorem below98_any (d : ByteArray) (l : List Fil) (v : Value) (w : World) (hv : Rows w 2 filR v l) (hl : l.length ≤ 16777216) :
    Calls Tryz.prog 64 #[.string d, v] w fun e w' => e = .returned (.int .i64 (belowN d l : Nat)) ∧ Below w.heap.size w w' := by
  have hnew := heap_alloc_new w (.cells #[.string d] 9)
  have hBa := (Below.refl w.heap.size w).alloc (Nat.le_refl _) (.cells #[.string d] 9)
  have HB := Lib.hid hBa
  have hc0 : (w.alloc (.cells #[.string d] 9)).cell? ⟨w.heap.size, 0, none⟩ = some (.string d) := block_cell hnew 0
  have HI := Lib.hid (index123_any w.heap.size d l v _ (lt_of_block hnew) hc0 (hv.below hBa) hl)
  obtain ⟨len, hll⟩ : ∃ len, len = l.length := ⟨_, rfl⟩
  obtain ⟨p, cap, rfl, -⟩ := hv.elem hll
  have HL := Lib.hid hll
  have Hlt := Lib.hid (lt_of_block hnew)
  clear hv hll hBa hnew
  go_enter Tryz.func64, Tryz.ntmps64
  go_wp2_with fail
  refine HI.out.mono ?_
  rintro e w1 ⟨k, rfl, hi, hB⟩
  have Hn := Lib.hid (belowN_idx hi)
  have HB1 := Lib.hid (HB.out.trans (hB.mono HB.out.size))
  clear hi hB
  by_cases hk : k < 0
  · have Hn2 := Lib.hid (show (belowN d l : Int) = len by rw [Hn.out, if_pos hk, HL.out])
    go_wp2_with fail
    go_ret
    exact ⟨by rw [Hn2.out]; rfl, HB1.out⟩
  · have Hn2 := Lib.hid (show (belowN d l : Int) = k by rw [Hn.out, if_neg hk])
    go_wp2_with fail
    go_ret
    exact ⟨by rw [Hn2.out]; rfl, HB1.out⟩
end Go.Proofs.YtdhaanaenklleaaGreatDoor
namespace Go.Proofs.YtdhaanaenklleaaGreatDoor
set_option linter.unusedVariables false
set_option linter.unusedSimpArgs false
open Go.ChangeShapes Go.WideShapes Go.ChangeAt Go.RowKit

/-- Neither is the other, nor above it. -/
def offP (a b : ByteArray) : Bool := !((underB a b).2 || decide (a = b))
def pairF (l : List Fil) (p : ByteArray) (i j : Nat) : Bool := decide (j = i) || (match l[j]? with | none => true | some g => offP g.1 p)
def oneF (l : List Fil) (i : Nat) : Bool := match l[i]? with | none => true | some f => goodB f.1 && (List.range l.length).all (pairF l f.1 i)
def whyOk (l : List Fil) : Bool := (List.range l.length).all (oneF l)
def longF (l : List Fil) : Bool := l.any fun x => decide (32768 < x.2.1.size)
def whyF (l : List Fil) : Int := if 512 < l.length then 3 else if whyOk l = false then 1 else if longF l = true then 3 else 0
theorem oneF_get {l : List Fil} {i : Nat} (h : i < l.length) : oneF l i = (goodB l[i].1 && (List.range l.length).all (pairF l l[i].1 i)) := by
  unfold oneF; rw [List.getElem?_eq_getElem h]
theorem pairF_get {l : List Fil} {p : ByteArray} {i j : Nat} (h : j < l.length) : pairF l p i j = (decide (j = i) || offP l[j].1 p) := by
  unfold pairF; rw [List.getElem?_eq_getElem h]
set_option maxRecDepth 100000 in
set_option maxHeartbeats 6000000 in
theorem why_any (v : Value) (a : List Fil) (w : World) (hv : Rows w 2 filR v a) (hz : ∀ x ∈ a, x.1.size ≤ 1073741824) (hn : a.length ≤ 9223372036854775806) :
    Calls Tryz.prog 10 #[v] w fun e w' => e = .returned (.int .i64 (whyF a)) ∧ Below w.heap.size w w' := by
  obtain ⟨len, hl⟩ : ∃ len, len = a.length := ⟨_, rfl⟩
  obtain ⟨p, cap, rfl, hp⟩ := hv.elem hl
  have Hp := Lib.hid hp
  have hnl : len ≤ 9223372036854775806 := by omega
  have Ha := Lib.hid hl
  have Hz := Lib.hid hz
  have HG := Lib.hid (fun (z : ByteArray) (hzz : z.size ≤ 1073741824) w1 => refGood_any z w1 hzz)
  clear hv hp hl hz hn
  by_cases h512 : 512 < len
  · have h512I : (512 : Int) < (len : Int) := by omega
    have Hfin := Lib.hid (show whyF a = 3 by unfold whyF; rw [if_pos (by have := Ha.out; omega)])
    go_enter Tryz.func10, Tryz.ntmps10
    go_wp2_with fail
    go_ret
    exact ⟨by rw [Hfin.out]; rfl, Below.refl _ _⟩
  have h512I : ¬ (512 : Int) < (len : Int) := by omega
  have Hbad := Lib.hid (fun (h : whyOk a = false) => (show whyF a = 1 by unfold whyF; rw [if_neg (by have := Ha.out; omega), if_pos h]))
  go_enter Tryz.func10, Tryz.ntmps10
  go_wp2_with fail
  go_loopg [16] len (fun g iv wr => ∃ k : Nat, k + g = len ∧ iv = .int .i64 k ∧ (List.range k).all (oneF a) = true ∧ Below w.heap.size w wr)
  case atStart => exact ⟨0, by omega, rfl, rfl, Below.refl _ _⟩
  case round =>
    obtain ⟨k, hkg, rfl, hno, hB⟩ := hrel
    have Hno := Lib.hid hno
    clear hno
    by_cases hlt : k < len
    · have hltI : (k : Int) < (len : Int) := by omega
      have hka : k < a.length := by have := Ha.out; omega
      have hzz := Hz.out _ (List.getElem_mem hka)
      obtain ⟨g1, o1, rfl, hg1, hcap1, hmax1, hcell1⟩ := Hp.out (by omega)
      have HpE := Lib.hid hcell1
      obtain ⟨ecs, he, hl34, hat⟩ := hcell1 k hka
      obtain ⟨f, hf⟩ : ∃ f, f = a[k] := ⟨_, rfl⟩
      rw [← hf] at he
      obtain ⟨rfl, hsz, hsd⟩ := fil_cells he
      have Hf := Lib.hid hf
      obtain ⟨z, dt, ⟨⟩⟩ := f
      simp only at hsz hsd
      have Hrg := Lib.hid (range_below hg1 hat hB)
      have hbox := fun old => box_at wr old 44 (filV (z, dt, ())) (j := 0) (y := .string z) rfl
      have hbox1 := fun old => box_at wr old 44 (filV (z, dt, ())) (j := 1) (y := .string dt) rfl
      have Hone := Lib.hid (one_row (filV_one (z, dt, ())))
      have hi0 : (Tryz.prog.info? 44).map (·.size) = some 2 := by kernel_rfl
      have Hi1 := Lib.hid (show (Tryz.prog.info? 44).map (·.size) = some (filV (z, dt, ())).length by rw [hi0, hl34])
      have Hi2 := Lib.hid (show (Tryz.prog.info? 44).map (·.size) = some ((filV (z, dt, ())).toArray).size by rw [hi0, List.size_toArray, hl34])
      have Hsz := Lib.hid (show 2 = ((filV (z, dt, ())).toArray).size by rw [List.size_toArray, hl34])
      have Hbx := Lib.hid (fun old => boxL_made wr old 44 (filV (z, dt, ())))
      clear he hat hcell1 hi0 hl34 hf
      have hzs : z.size ≤ 1073741824 := by have := Hf.out; rw [← this] at hzz; exact hzz
      have HB := Lib.hid hB
      clear hB hzz
      have HbadK := Lib.hid (fun (h : oneF a k = false) => Hbad.out (show whyOk a = false by unfold whyOk; exact all_not hka h))
      cases hgz : goodB z with
      | false =>
        have Hfin := Lib.hid (HbadK.out (by rw [oneF_get hka, ← Hf.out]; simp [hgz]))
        have HGz := Lib.hid (HG.out z hzs)
        rw [hgz] at HGz
        clear hgz
        go_wp2_with (first | (refine wpList_load_mid rfl 44 (.tmp 19) rfl g1 (o1 + k * 2) rfl (filV (z, dt, ())) _ Hrg.out Tryz.underlying44 rfl Hi1.out ?_) | (refine wpList_store_rowTo rfl 44 (.tmp 4) (.tmp 20) rfl rfl wr.heap.size (filV (z, dt, ())).toArray rfl rfl 44 _ (heap_alloc_new wr _) Hi2.out (by rw [← Hsz.out]; rfl) Hone.out ?_))
        refine (HGz.out _).mono ?_
        rintro e w2 ⟨rfl, hB2⟩
        have HB2 := Lib.hid (HB.out.trans (((Hbx.out _).below hB2).b.mono HB.out.size))
        clear hB2
        go_wp2_with fail
        go_ret
        exact ⟨by rw [Hfin.out]; rfl, HB2.out⟩
      | true =>
        have HGz := Lib.hid (HG.out z hzs)
        rw [hgz] at HGz
        have Hgz := Lib.hid hgz
        clear hgz
        go_wp2_with (first | (refine wpList_load_mid rfl 44 (.tmp 19) rfl g1 (o1 + k * 2) rfl (filV (z, dt, ())) _ Hrg.out Tryz.underlying44 rfl Hi1.out ?_) | (refine wpList_store_rowTo rfl 44 (.tmp 4) (.tmp 20) rfl rfl wr.heap.size (filV (z, dt, ())).toArray rfl rfl 44 _ (heap_alloc_new wr _) Hi2.out (by rw [← Hsz.out]; rfl) Hone.out ?_))
        refine (HGz.out _).mono ?_
        rintro e w2 ⟨rfl, hB2⟩
        have HBx := Lib.hid ((Hbx.out _).below hB2)
        clear hB2 hbox hbox1 Hbx
        go_wp2_with fail
        have HgR := Lib.hid HpE.out
        clear Hi1 Hi2 Hsz Hone Hrg
        obtain ⟨gk0, hgk0⟩ : ∃ q, q = gk := ⟨_, rfl⟩
        generalize wr = wo at *
        go_loopg [27] len (fun g iv wr2 => ∃ j : Nat, j + g = len ∧ iv = .int .i64 j ∧ (List.range j).all (pairF a z k) = true ∧ BoxL wo wo.heap.size (filV (z, dt, ())) wr2)
        case atStart => exact ⟨0, by omega, rfl, rfl, HBx.out⟩
        case round =>
          obtain ⟨j, hjg, rfl, hnp, hbx⟩ := hrel
          have Hnp := Lib.hid hnp
          have HBj := Lib.hid hbx
          clear hnp hbx
          by_cases hjl : j < len
          · have hjI : (j : Int) < (len : Int) := by omega
            have hja : j < a.length := by have := Ha.out; omega
            have hzz2 := Hz.out _ (List.getElem_mem hja)
            obtain ⟨ecs, he, hl34, hat⟩ := HpE.out j hja
            obtain ⟨f2, hf2⟩ : ∃ f, f = a[j] := ⟨_, rfl⟩
            rw [← hf2] at he
            obtain ⟨rfl, hsz2, hsd2⟩ := fil_cells he
            have Hf2 := Lib.hid hf2
            obtain ⟨z2, dt2, ⟨⟩⟩ := f2
            have hzs2 : z2.size ≤ 1073741824 := by have := Hf2.out; rw [← this] at hzz2; exact hzz2
            have Hrg := Lib.hid (range_below hg1 hat (HB.out.trans (HBj.out.b.mono HB.out.size)))
            have hbox6 := fun old => box_at wr old 44 (filV (z2, dt2, ())) (j := 0) (y := .string z2) rfl
            have hbox4 := fun old => (HBj.out.below (boxL_made wr old 44 (filV (z2, dt2, ()))).b).r 0 (.string z) rfl
            have Hone := Lib.hid (one_row (filV_one (z2, dt2, ())))
            have hi0 : (Tryz.prog.info? 44).map (·.size) = some 2 := by kernel_rfl
            have Hi1 := Lib.hid (show (Tryz.prog.info? 44).map (·.size) = some (filV (z2, dt2, ())).length by rw [hi0, hl34])
            have Hi2 := Lib.hid (show (Tryz.prog.info? 44).map (·.size) = some ((filV (z2, dt2, ())).toArray).size by rw [hi0, List.size_toArray, hl34])
            have Hsz := Lib.hid (show 2 = ((filV (z2, dt2, ())).toArray).size by rw [List.size_toArray, hl34])
            have HB6 := Lib.hid (fun old => HBj.out.below (boxL_made wr old 44 (filV (z2, dt2, ()))).b)
            have HU := Lib.hid (fun w1 => refUnder_any z2 z w1 hzs2 hzs)
            unfold Under2 at HU
            have HbadJ := Lib.hid (fun (h : pairF a z k j = false) => HbadK.out (by
              rw [oneF_get hka, ← Hf.out, all_not hja h, Bool.and_false]))
            have HpG := Lib.hid (show pairF a z k j = (decide (j = k) || !((underB z2 z).2 || decide (z2 = z))) by rw [pairF_get hja, ← Hf2.out]; rfl)
            clear he hat hi0 hl34 hf2 hsz2 hsd2 hzz2
            obtain ⟨ur, hur⟩ : ∃ ur, ur = (underB z2 z).1 := ⟨_, rfl⟩
            obtain ⟨ub, hub⟩ : ∃ ub, ub = (underB z2 z).2 := ⟨_, rfl⟩
            rw [← hur, ← hub] at HU
            rw [← hub] at HpG
            clear hur hub
            go_wp2_with (first | (refine wpList_load_mid rfl 44 (.tmp 30) rfl g1 (o1 + j * 2) rfl (filV (z2, dt2, ())) _ Hrg.out Tryz.underlying44 rfl Hi1.out ?_) | (refine wpList_store_rowTo rfl 44 (.tmp 6) (.tmp 31) rfl rfl wr.heap.size (filV (z2, dt2, ())).toArray rfl rfl 44 _ (heap_alloc_new wr _) Hi2.out (by rw [← Hsz.out]; rfl) Hone.out ?_))
            refine (HU.out _).mono ?_
            rintro e w3 ⟨rfl, hw3⟩
            subst hw3
            by_cases hjk : j = k
            · have hjkI : ((j : Int) == (k : Int)) = true := by rw [hjk]; exact beq_self_eq_true _
              have Hok := Lib.hid (show pairF a z k j = true by rw [HpG.out, decide_eq_true hjk]; rfl)
              have hjkI2 : (j : Int) = (k : Int) := by omega
              go_wp2_with fail
              go_roundg (gk - 1)
              case measure => omega
              case rel => exact ⟨j + 1, by omega, by go_num, by rw [all_next, Hnp.out, Hok.out]; rfl, HB6.out _⟩
            · have hjkI : ((j : Int) == (k : Int)) = false := beq_eq_false_iff_ne.2 (by omega)
              have hjkI2 : ¬ (j : Int) = (k : Int) := by omega
              rw [decide_eq_false hjk, Bool.false_or] at HpG
              cases ub with
              | true =>
                have Hfin := Lib.hid (HbadJ.out (by rw [HpG.out]; rfl))
                go_wp2_with fail
                go_ret
                exact ⟨by rw [Hfin.out]; rfl, HB.out.trans ((HB6.out _).b.mono HB.out.size)⟩
              | false =>
                by_cases hzz3 : z2 = z
                · have Hfin := Lib.hid (HbadJ.out (by rw [HpG.out, decide_eq_true hzz3]; rfl))
                  subst hzz3
                  go_wp2_with fail
                  go_ret
                  exact ⟨by rw [Hfin.out]; rfl, HB.out.trans ((HB6.out _).b.mono HB.out.size)⟩
                · have Hok := Lib.hid (show pairF a z k j = true by rw [HpG.out, decide_eq_false hzz3]; rfl)
                  have hzb : (z2.toList == z.toList) = false := beq_of_ne hzz3
                  go_wp2_with fail
                  go_roundg (gk - 1)
                  case measure => omega
                  case rel => exact ⟨j + 1, by omega, by go_num, by rw [all_next, Hnp.out, Hok.out]; rfl, HB6.out _⟩
          · have hjI : ¬ (j : Int) < (len : Int) := by omega
            have Hok := Lib.hid (show oneF a k = true by
              rw [oneF_get hka, ← Hf.out, Hgz.out]
              have h := Hnp.out
              have e : j = a.length := (by have := Ha.out; omega)
              rw [e] at h
              exact h)
            have HB5 := Lib.hid (HB.out.trans (HBj.out.b.mono HB.out.size))
            go_wp2_with fail
            go_roundg (gk0 - 1)
            case measure => omega
            case rel => exact ⟨k + 1, by omega, by go_num, by rw [all_next, Hno.out, Hok.out]; rfl, HB5.out⟩
    · have hnI : ¬ (k : Int) < (len : Int) := by omega
      have Hok := Lib.hid (show whyOk a = true by have h := Hno.out; have e : k = a.length := (by have := Ha.out; omega); rw [e] at h; exact h)
      have HB := Lib.hid hB
      clear hB
      go_wp2_with fail
      go_loopg [57] len (fun g iv wr => ∃ k : Nat, k + g = len ∧ iv = .int .i64 k ∧ Hid (∀ j, j < k → ∀ x : Fil, a[j]? = some x → ¬ 32768 < x.2.1.size) ∧ Below w.heap.size w wr)
      case atStart => exact ⟨0, by omega, rfl, Lib.hid (fun j h => absurd h (Nat.not_lt_zero _)), HB.out⟩
      case round =>
        obtain ⟨k, hkg, rfl, HA, hB⟩ := hrel
        by_cases hlt : k < len
        · have hltI : (k : Int) < (len : Int) := by omega
          have hka : k < a.length := by have := Ha.out; omega

          obtain ⟨g1, o1, rfl, hg1, hcap1, hmax1, hcell1⟩ := Hp.out (by omega)
          have HpE := Lib.hid hcell1
          obtain ⟨ecs, he, hl34, hat⟩ := hcell1 k hka
          obtain ⟨f, hf⟩ : ∃ f, f = a[k] := ⟨_, rfl⟩
          rw [← hf] at he
          obtain ⟨rfl, hsz, hsd⟩ := fil_cells he
          have Hf := Lib.hid hf
          obtain ⟨z, dt, ⟨⟩⟩ := f
          simp only at hsz hsd
          have Hrg := Lib.hid (range_below hg1 hat hB)
          have hbox := fun old => box_at wr old 44 (filV (z, dt, ())) (j := 0) (y := .string z) rfl
          have hbox1 := fun old => box_at wr old 44 (filV (z, dt, ())) (j := 1) (y := .string dt) rfl
          have Hone := Lib.hid (one_row (filV_one (z, dt, ())))
          have hi0 : (Tryz.prog.info? 44).map (·.size) = some 2 := by kernel_rfl
          have Hi1 := Lib.hid (show (Tryz.prog.info? 44).map (·.size) = some (filV (z, dt, ())).length by rw [hi0, hl34])
          have Hi2 := Lib.hid (show (Tryz.prog.info? 44).map (·.size) = some ((filV (z, dt, ())).toArray).size by rw [hi0, List.size_toArray, hl34])
          have Hsz := Lib.hid (show 2 = ((filV (z, dt, ())).toArray).size by rw [List.size_toArray, hl34])
          have Hbx := Lib.hid (fun old => boxL_made wr old 44 (filV (z, dt, ())))
          clear he hat hcell1 hi0 hl34 hf
          have HB := Lib.hid hB
          clear hB
          by_cases hlg : 32768 < dt.size
          · have hlgI : (32768 : Int) < (dt.size : Int) := by omega
            have Hfin := Lib.hid (show whyF a = 3 by
              have h : longF a = true := by unfold longF; rw [List.any_eq_true]; exact ⟨a[k], List.getElem_mem hka, by rw [← Hf.out]; exact decide_eq_true hlg⟩
              unfold whyF; rw [if_neg (by have := Ha.out; omega), Hok.out, if_neg (by simp), if_pos h])
            go_wp2_with (first | (refine wpList_load_mid rfl 44 (.tmp 59) rfl g1 (o1 + k * 2) rfl (filV (z, dt, ())) _ Hrg.out Tryz.underlying44 rfl Hi1.out ?_) | (refine wpList_store_rowTo rfl 44 (.tmp 10) (.tmp 60) rfl rfl wr.heap.size (filV (z, dt, ())).toArray rfl rfl 44 _ (heap_alloc_new wr _) Hi2.out (by rw [← Hsz.out]; rfl) Hone.out ?_))
            go_ret
            exact ⟨by rw [Hfin.out]; rfl, HB.out.trans ((Hbx.out _).b.mono HB.out.size)⟩
          · have hlgI : ¬ (32768 : Int) < (dt.size : Int) := by omega
            go_wp2_with (first | (refine wpList_load_mid rfl 44 (.tmp 59) rfl g1 (o1 + k * 2) rfl (filV (z, dt, ())) _ Hrg.out Tryz.underlying44 rfl Hi1.out ?_) | (refine wpList_store_rowTo rfl 44 (.tmp 10) (.tmp 60) rfl rfl wr.heap.size (filV (z, dt, ())).toArray rfl rfl 44 _ (heap_alloc_new wr _) Hi2.out (by rw [← Hsz.out]; rfl) Hone.out ?_))
            go_roundg (gk - 1)
            case measure => omega
            case rel =>
              refine ⟨k + 1, by omega, by go_num, Lib.hid (fun j hj x hx => ?_), HB.out.trans ((Hbx.out _).b.mono HB.out.size)⟩
              by_cases he : j = k
              · subst he
                rw [List.getElem?_eq_getElem hka, ← Hf.out] at hx
                injection hx with hx
                rw [← hx]
                exact hlg
              · exact HA.out j (by omega) x hx
        · have hnI2 : ¬ (k : Int) < (len : Int) := by omega
          have Hfin := Lib.hid (show whyF a = 0 by
            have h : ¬ longF a = true := by
              intro h
              unfold longF at h
              rw [List.any_eq_true] at h
              obtain ⟨x, hx, hd⟩ := h
              obtain ⟨j, hj⟩ := List.mem_iff_getElem?.1 hx
              exact HA.out j (by have := (List.getElem?_eq_some_iff.1 hj).1; have := Ha.out; omega) x hj (of_decide_eq_true hd)
            unfold whyF; rw [if_neg (by have := Ha.out; omega), Hok.out, if_neg (by simp), if_neg h])
          go_wp2_with fail
          go_ret
          exact ⟨by rw [Hfin.out]; rfl, hB⟩
end Go.Proofs.YtdhaanaenklleaaGreatDoor
