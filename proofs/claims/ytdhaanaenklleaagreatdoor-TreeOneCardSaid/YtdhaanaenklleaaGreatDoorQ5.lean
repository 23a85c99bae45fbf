/- Files: their rows, Great, and apart; Whether the files are apart; Maps in memory, by what stands at each key; keys of 32 bytes; The tree's store in memory: three maps; New and Size; How many things the tree's store has. -/
import Derived.Test.YtdhaanaenklleaaGreatDoorQ2
import Derived.Test.YtdhaanaenklleaaGreatDoorXN6
import Derived.Test.YtdhaanaenklleaaGreatDoorQ3
import Derived.Maps.OwnSet
import Derived.DeepKeys4
import Derived.Test.YtdhaanaenklleaaGreatDoorXN1
namespace Go.Proofs.YtdhaanaenklleaaGreatDoor
set_option linter.unusedVariables false
set_option linter.unusedSimpArgs false
open Go.ChangeShapes Go.WideShapes Go.ChangeAt Go.RowKit

abbrev Fil := ByteArray × (ByteArray × Unit)
abbrev filR : Fil → List Value → Prop := consR strR (consR strR nilR)
def filV (a : Fil) : List Value := [.string a.1, .string a.2.1]
theorem fil_cells {a : Fil} {cs : List Value} (h : filR a cs) : cs = filV a ∧ a.1.size ≤ 140737488351232 ∧ a.2.1.size ≤ 140737488351232 := by
  obtain ⟨x, y, rfl, ⟨rfl, h1⟩, p, q, rfl, ⟨rfl, h2⟩, rfl⟩ := h
  exact ⟨by simp [filV], h1, h2⟩
theorem filR_of {a : Fil} (h1 : a.1.size ≤ 140737488351232) (h2 : a.2.1.size ≤ 140737488351232) : filR a (filV a) :=
  ⟨[.string a.1], [.string a.2.1], rfl, ⟨rfl, h1⟩, [.string a.2.1], [], by simp, ⟨rfl, h2⟩, rfl⟩
theorem filV_one (a : Fil) : ∀ u ∈ filV a, u.oneCell' = true := by
  intro u hu
  simp only [filV, List.mem_cons, List.not_mem_nil, or_false] at hu
  rcases hu with rfl | rfl <;> rfl
theorem opens_fil (W : World) : Opens Tryz.prog W 44 filR :=
  opens_struct Tryz.underlying44 (by kernel_rfl) (opensF_cons (k := 1) rfl (by kernel_rfl) (opens_str Tryz.underlying9) (opensF_cons (k := 1) rfl (by kernel_rfl) (opens_str Tryz.underlying9) (opensF_nil)))
theorem opens_fils (W : World) : Opens Tryz.prog W 22 (rowsR W 2 filR) := opens_list Tryz.underlying22 (by kernel_rfl) (by decide) (opens_fil W)
def sumF : List Fil → Nat | [] => 0 | f :: r => f.1.size + f.2.1.size + sumF r
theorem sumF_app (a b : List Fil) : sumF (a ++ b) = sumF a + sumF b := by
  induction a with
  | nil => simp [sumF]
  | cons f r ih => simp only [List.cons_append, sumF, ih]; omega
theorem sumF_mem {a : List Fil} {x : Fil} (h : x ∈ a) : x.1.size + x.2.1.size ≤ sumF a := by
  induction a with
  | nil => cases h
  | cons f r ih =>
    simp only [sumF]
    rcases List.mem_cons.1 h with rfl | h
    · omega
    · have := ih h; omega
theorem sumF_next {a : List Fil} {k : Nat} (h : k < a.length) : sumF (a.take (k + 1)) = sumF (a.take k) + (a[k].1.size + a[k].2.1.size) := by
  rw [List.take_succ_eq_append_getElem h, sumF_app]; simp [sumF]
theorem sumF_le (a : List Fil) (k : Nat) : sumF (a.take k) ≤ sumF a := by
  have := sumF_app (a.take k) (a.drop k)
  rw [List.take_append_drop] at this
  omega
/-- Too many, or too much. -/
def greatF (a : List Fil) (n m : Nat) : Bool := decide (m < sumF a) || decide (n < a.length)
theorem greatF_no {a : List Fil} {n m : Nat} (h : greatF a n m = false) : a.length ≤ n ∧ sumF a ≤ m := by
  unfold greatF at h
  rw [Bool.or_eq_false_iff] at h
  have h1 := of_decide_eq_false h.1
  have h2 := of_decide_eq_false h.2
  exact ⟨by omega, by omega⟩
/-- Each is a path, and neither its neighbour's nor below it. -/
def okF (l : List Fil) (k : Nat) : Bool := match l[k]? with
  | none => true
  | some e => goodB e.1 && (match k with | 0 => true | k + 1 => match l[k]? with | none => true | some d => !((underB d.1 e.1).2 || decide (d.1 = e.1)))
def apartF (l : List Fil) : Bool := (List.range l.length).all (okF l)
theorem okF_zero {l : List Fil} (h : 0 < l.length) : okF l 0 = goodB l[0].1 := by
  unfold okF; rw [List.getElem?_eq_getElem h]; simp
theorem okF_succ {l : List Fil} {k : Nat} (h : k + 1 < l.length) : okF l (k + 1) = (goodB l[k + 1].1 && !((underB (l[k]'(by omega)).1 l[k + 1].1).2 || decide ((l[k]'(by omega)).1 = l[k + 1].1))) := by
  simp [okF, h, show k < l.length by omega]
set_option maxRecDepth 100000 in
set_option maxHeartbeats 2000000 in
theorem greatF_any (v : Value) (a : List Fil) (n m : Nat) (w : World) (hv : Rows w 2 filR v a) (hn : n ≤ 1073741824) (hm : m ≤ 1073741824) :
    Calls Tryz.prog 9 #[v, .int .i64 (n : Nat), .int .i64 (m : Nat)] w fun e w' => e = .returned (.bool (greatF a n m)) ∧ Below w.heap.size w w' := by
  obtain ⟨len, hl⟩ : ∃ len, len = a.length := ⟨_, rfl⟩
  obtain ⟨p, cap, rfl, hp⟩ := hv.elem hl
  have Hp := Lib.hid hp
  have Ha := Lib.hid hl
  clear hv hp hl
  go_enter Tryz.func9, Tryz.ntmps9
  go_wp2_with fail
  go_loopg [7, 12] len (fun g sv iv wr => ∃ k : Nat, k + g = len ∧ iv = .int .i64 k ∧ sv = .int .i64 (sumF (a.take k) : Nat) ∧ sumF (a.take k) ≤ m ∧ Below w.heap.size w wr)
  case atStart => exact ⟨0, by omega, rfl, rfl, by simp [sumF], Below.refl _ _⟩
  case round =>
    obtain ⟨k, hkg, rfl, rfl, hs, hB⟩ := hrel
    by_cases hlt : k < len
    · have hltI : (k : Int) < (len : Int) := by omega
      have hka : k < a.length := by have := Ha.out; omega
      have hnx := sumF_next hka
      have hle := sumF_le a (k + 1)
      obtain ⟨g1, o1, rfl, hg1, hcap1, hmax1, hcell1⟩ := Hp.out (by omega)
      have HpE := Lib.hid hcell1
      obtain ⟨ecs, he, hl34, hat⟩ := hcell1 k hka
      obtain ⟨f, hf⟩ : ∃ f, f = a[k] := ⟨_, rfl⟩
      rw [← hf] at he
      obtain ⟨rfl, hsz, hsd⟩ := fil_cells he
      have Hf := Lib.hid hf
      obtain ⟨z, dt, ⟨⟩⟩ := f
      simp only at hsz hsd
      have Hrg := Lib.hid (range_below hg1 hat hB)
      have hbox := fun old => box_at wr old 44 (filV (z, dt, ())) (j := 0) (y := .string z) rfl
      have hbox1 := fun old => box_at wr old 44 (filV (z, dt, ())) (j := 1) (y := .string dt) rfl
      have Hone := Lib.hid (one_row (filV_one (z, dt, ())))
      have hi0 : (Tryz.prog.info? 44).map (·.size) = some 2 := by kernel_rfl
      have Hi1 := Lib.hid (show (Tryz.prog.info? 44).map (·.size) = some (filV (z, dt, ())).length by rw [hi0, hl34])
      have Hi2 := Lib.hid (show (Tryz.prog.info? 44).map (·.size) = some ((filV (z, dt, ())).toArray).size by rw [hi0, List.size_toArray, hl34])
      have Hsz := Lib.hid (show 2 = ((filV (z, dt, ())).toArray).size by rw [List.size_toArray, hl34])
      have Hbx := Lib.hid (fun old => boxL_made wr old 44 (filV (z, dt, ())))
      clear he hat hcell1 hi0 hl34 hf
      rw [← Hf.out] at hnx
      have Hnx := Lib.hid hnx
      have Hle := Lib.hid hle
      have HB := Lib.hid hB
      obtain ⟨S, hS⟩ : ∃ S, S = sumF (a.take k) := ⟨_, rfl⟩
      rw [← hS] at hs Hnx ⊢
      clear hB hnx hle
      by_cases hbig : m < S + (z.size + dt.size)
      · have hbI : (m : Int) < (S : Int) + ((z.size : Int) + (dt.size : Int)) := by omega
        go_wp2_with (first | (refine wpList_load_mid rfl 44 (.tmp 14) rfl g1 (o1 + k * 2) rfl (filV (z, dt, ())) _ Hrg.out Tryz.underlying44 rfl Hi1.out ?_) | (refine wpList_store_rowTo rfl 44 (.tmp 9) (.tmp 15) rfl rfl wr.heap.size (filV (z, dt, ())).toArray rfl rfl 44 _ (heap_alloc_new wr _) Hi2.out (by rw [← Hsz.out]; rfl) Hone.out ?_))
        go_ret
        refine ⟨?_, HB.out.trans ((Hbx.out _).b.mono HB.out.size)⟩
        have : greatF a n m = true := by unfold greatF; rw [decide_eq_true (by have := Hnx.out; have := Hle.out; omega)]; rfl
        rw [this]; rfl
      · have hbI : ¬ (m : Int) < (S : Int) + ((z.size : Int) + (dt.size : Int)) := by omega
        go_wp2_with (first | (refine wpList_load_mid rfl 44 (.tmp 14) rfl g1 (o1 + k * 2) rfl (filV (z, dt, ())) _ Hrg.out Tryz.underlying44 rfl Hi1.out ?_) | (refine wpList_store_rowTo rfl 44 (.tmp 9) (.tmp 15) rfl rfl wr.heap.size (filV (z, dt, ())).toArray rfl rfl 44 _ (heap_alloc_new wr _) Hi2.out (by rw [← Hsz.out]; rfl) Hone.out ?_))
        go_roundg (gk - 1)
        case measure => omega
        case rel => exact ⟨k + 1, by omega, by go_num, by rw [Hnx.out]; go_num, by rw [Hnx.out]; omega, HB.out.trans ((Hbx.out _).b.mono HB.out.size)⟩
    · have hnI : ¬ (k : Int) < (len : Int) := by omega
      have hsa : sumF a ≤ m := by
        rw [List.take_of_length_le (by have := Ha.out; omega)] at hs; exact hs
      have Hsa := Lib.hid hsa
      have HB := Lib.hid hB
      clear hB hsa
      by_cases h60 : n < len
      · have h60I : (n : Int) < (len : Int) := by omega
        go_wp2_with fail
        go_ret
        refine ⟨?_, HB.out⟩
        have : greatF a n m = true := by unfold greatF; rw [decide_eq_true (show n < a.length by have := Ha.out; omega)]; simp
        rw [this]; rfl
      · have h60I : ¬ (n : Int) < (len : Int) := by omega
        go_wp2_with fail
        go_ret
        refine ⟨?_, HB.out⟩
        have : greatF a n m = false := by unfold greatF; rw [decide_eq_false (show ¬ n < a.length by have := Ha.out; omega), decide_eq_false (show ¬ m < sumF a by have := Hsa.out; omega)]; rfl
        rw [this]; rfl
end Go.Proofs.YtdhaanaenklleaaGreatDoor
namespace Go.Proofs.YtdhaanaenklleaaGreatDoor
set_option linter.unusedVariables false
set_option linter.unusedSimpArgs false
open Go.ChangeShapes Go.WideShapes Go.ChangeAt Go.RowKit

set_option maxRecDepth 100000 in
set_option maxHeartbeats 4000000 in
theorem apart_any (v : Value) (a : List Fil) (w : World) (hM : MaxAt w) (hv : Rows w 2 filR v a) (hz : ∀ x ∈ a, x.1.size ≤ 1073741824) (hn : a.length ≤ 9223372036854775806) :
    Calls Tryz.prog 38 #[v] w fun e w' => e = .returned (.bool (apartF a)) ∧ Below w.heap.size w w' := by
  obtain ⟨len, hl⟩ : ∃ len, len = a.length := ⟨_, rfl⟩
  obtain ⟨p, cap, rfl, hp⟩ := hv.elem hl
  have Hp := Lib.hid hp
  have hnl : len ≤ 9223372036854775806 := by omega
  have Ha := Lib.hid hl
  have Hz := Lib.hid hz
  have HG := Lib.hid (fun (z : ByteArray) (hzz : z.size ≤ 1073741824) w1 (h1 : Below w.heap.size w w1) => by obtain ⟨m, hm⟩ := (hM.below h1).2; exact good_any z m w1 hzz hm)
  clear hv hp hl hz hn hM
  go_enter Tryz.func38, Tryz.ntmps38
  go_wp2_with fail
  go_loopg [10] len (fun g iv wr => ∃ k : Nat, k + g = len ∧ iv = .int .i64 k ∧ (List.range k).all (okF a) = true ∧ Below w.heap.size w wr)
  case atStart => exact ⟨0, by omega, rfl, rfl, Below.refl _ _⟩
  case round =>
    obtain ⟨k, hkg, rfl, hno, hB⟩ := hrel
    have Hno := Lib.hid hno
    clear hno
    by_cases hlt : k < len
    · have hltI : (k : Int) < (len : Int) := by omega
      have hka : k < a.length := by have := Ha.out; omega
      have hzz := Hz.out _ (List.getElem_mem hka)
      obtain ⟨g1, o1, rfl, hg1, hcap1, hmax1, hcell1⟩ := Hp.out (by omega)
      have HpE := Lib.hid hcell1
      obtain ⟨ecs, he, hl34, hat⟩ := hcell1 k hka
      obtain ⟨f, hf⟩ : ∃ f, f = a[k] := ⟨_, rfl⟩
      rw [← hf] at he
      obtain ⟨rfl, hsz, hsd⟩ := fil_cells he
      have Hf := Lib.hid hf
      obtain ⟨z, dt, ⟨⟩⟩ := f
      simp only at hsz hsd
      have Hrg := Lib.hid (range_below hg1 hat hB)
      have hbox := fun old => box_at wr old 44 (filV (z, dt, ())) (j := 0) (y := .string z) rfl
      have hbox1 := fun old => box_at wr old 44 (filV (z, dt, ())) (j := 1) (y := .string dt) rfl
      have Hone := Lib.hid (one_row (filV_one (z, dt, ())))
      have hi0 : (Tryz.prog.info? 44).map (·.size) = some 2 := by kernel_rfl
      have Hi1 := Lib.hid (show (Tryz.prog.info? 44).map (·.size) = some (filV (z, dt, ())).length by rw [hi0, hl34])
      have Hi2 := Lib.hid (show (Tryz.prog.info? 44).map (·.size) = some ((filV (z, dt, ())).toArray).size by rw [hi0, List.size_toArray, hl34])
      have Hsz := Lib.hid (show 2 = ((filV (z, dt, ())).toArray).size by rw [List.size_toArray, hl34])
      have Hbx := Lib.hid (fun old => boxL_made wr old 44 (filV (z, dt, ())))
      clear he hat hcell1 hi0 hl34 hf
      have hzs : z.size ≤ 1073741824 := by have := Hf.out; rw [← this] at hzz; exact hzz
      have HB := Lib.hid hB
      clear hB hzz
      have Hbad := Lib.hid (fun (h : okF a k = false) => (show apartF a = false by
        unfold apartF; exact all_not hka h))
      have Hnm := Lib.hid (fun (h : goodB z = false) => (show okF a k = false by
        unfold okF; rw [List.getElem?_eq_getElem hka, ← Hf.out]; simp [h]))
      cases hgz : goodB z with
      | false =>
        have Hfin := Lib.hid (Hbad.out (Hnm.out hgz))
        have HGz := Lib.hid (HG.out z hzs)
        rw [hgz] at HGz
        clear hgz
        go_wp2_with (first | (refine wpList_load_mid rfl 44 (.tmp 13) rfl g1 (o1 + k * 2) rfl (filV (z, dt, ())) _ Hrg.out Tryz.underlying44 rfl Hi1.out ?_) | (refine wpList_store_rowTo rfl 44 (.tmp 4) (.tmp 14) rfl rfl wr.heap.size (filV (z, dt, ())).toArray rfl rfl 44 _ (heap_alloc_new wr _) Hi2.out (by rw [← Hsz.out]; rfl) Hone.out ?_))
        refine (HGz.out _ (HB.out.trans ((Hbx.out _).b.mono HB.out.size))).mono ?_
        rintro e w2 ⟨rfl, hB2⟩
        have HB2 := Lib.hid (HB.out.trans (((Hbx.out _).below hB2).b.mono HB.out.size))
        clear hB2
        go_wp2_with fail
        go_ret
        exact ⟨by rw [Hfin.out]; rfl, HB2.out⟩
      | true =>
        have HGz := Lib.hid (HG.out z hzs)
        rw [hgz] at HGz
        have Hgz := Lib.hid hgz
        clear hgz
        go_wp2_with (first | (refine wpList_load_mid rfl 44 (.tmp 13) rfl g1 (o1 + k * 2) rfl (filV (z, dt, ())) _ Hrg.out Tryz.underlying44 rfl Hi1.out ?_) | (refine wpList_store_rowTo rfl 44 (.tmp 4) (.tmp 14) rfl rfl wr.heap.size (filV (z, dt, ())).toArray rfl rfl 44 _ (heap_alloc_new wr _) Hi2.out (by rw [← Hsz.out]; rfl) Hone.out ?_))
        refine (HGz.out _ (HB.out.trans ((Hbx.out _).b.mono HB.out.size))).mono ?_
        rintro e w2 ⟨rfl, hB2⟩
        have HBx := Lib.hid ((Hbx.out _).below hB2)
        have kb0 := HBx.out.r 0 (.string z) rfl
        have HB5 := Lib.hid (HB.out.trans (HBx.out.b.mono HB.out.size))
        clear hB2 hbox hbox1
        cases k with
        | zero =>
          have Hok := Lib.hid (show okF a 0 = true by rw [okF_zero hka, ← Hf.out]; exact Hgz.out)
          go_wp2_with fail
          go_roundg (gk - 1)
          case measure => omega
          case rel => exact ⟨1, by omega, by go_num, by rw [all_next, Hno.out, Hok.out]; rfl, HB5.out⟩
        | succ k =>
          obtain ⟨ecs, he, hl34, hat⟩ := HpE.out k (by omega)
          obtain ⟨f2, hf2⟩ : ∃ f, f = a[k]'(by omega) := ⟨_, rfl⟩
          rw [← hf2] at he
          obtain ⟨rfl, hsz2, -⟩ := fil_cells he
          have Hf2 := Lib.hid hf2
          obtain ⟨z2, dt2, ⟨⟩⟩ := f2
          have hc0 : w.cell? ⟨g1, o1 + k * 2, none⟩ = some (.string z2) := by simpa using hat 0 (.string z2) rfl
          have Hc0 := Lib.hid hc0
          have hix : ((k + 1 : Nat) : Int) - 1 = (k : Int) := by omega
          have hkI : (k : Int) < (len : Int) := by omega
          have hk0 : (((k + 1 : Nat) : Int) == 0) = false := beq_eq_false_iff_ne.2 (by omega)
          have hk03 : ((k : Int) + 1 == 0) = false := beq_eq_false_iff_ne.2 (by omega)
          have hk04 : ¬ (k : Int) + 1 = 0 := by omega
          have hk02 : ¬ ((k + 1 : Nat) : Int) = 0 := by omega
          have Hok := Lib.hid (show okF a (k + 1) = !((underB z2 z).2 || decide (z2 = z)) by rw [okF_succ hka, ← Hf.out, ← Hf2.out]; rw [Hgz.out]; rfl)
          have HU := Lib.hid (fun w1 => under_any z2 z w1)
          clear he hat hf2 hl34 hc0 hsz2
          have kc0 := (HB5.out.cell (p := ⟨g1, o1 + k * 2, none⟩) hg1).trans Hc0.out
          go_wp2_with fail
          refine (HU.out w2).mono ?_
          rintro e w3 ⟨rfl, hw3⟩
          subst hw3
          obtain ⟨ur, hur⟩ : ∃ ur, ur = (underB z2 z).1 := ⟨_, rfl⟩
          rw [← hur]
          clear hur
          cases hub : (underB z2 z).2 with
          | true =>
            have Hfin := Lib.hid (Hbad.out (by rw [Hok.out, hub]; rfl))
            clear hub
            go_wp2_with fail
            go_ret
            exact ⟨by rw [Hfin.out]; rfl, HB5.out⟩
          | false =>
            by_cases hzz2 : z2 = z
            · have Hfin := Lib.hid (Hbad.out (by rw [Hok.out, hub, decide_eq_true hzz2]; rfl))
              clear hub
              subst hzz2
              go_wp2_with fail
              go_ret
              exact ⟨by rw [Hfin.out]; rfl, HB5.out⟩
            · have Hokt := Lib.hid (show okF a (k + 1) = true by rw [Hok.out, hub, decide_eq_false hzz2]; rfl)
              have hzb : (z2.toList == z.toList) = false := beq_of_ne hzz2
              clear hub
              go_wp2_with fail
              go_roundg (gk - 1)
              case measure => omega
              case rel => exact ⟨k + 1 + 1, by omega, by go_num, by rw [all_next, Hno.out, Hokt.out]; rfl, HB5.out⟩
    · have hnI : ¬ (k : Int) < (len : Int) := by omega
      have Hfin := Lib.hid (show apartF a = true by have h := Hno.out; have e : k = a.length := (by have := Ha.out; omega); rw [e] at h; exact h)
      go_wp2_with fail
      go_ret
      exact ⟨by rw [Hfin.out]; rfl, hB⟩
end Go.Proofs.YtdhaanaenklleaaGreatDoor
namespace Go.Proofs.YtdhaanaenklleaaGreatDoor
set_option linter.unusedVariables false
set_option linter.unusedSimpArgs false
open Go.ChangeShapes Go.WideShapes Go.ChangeAt Go.RowKit
open Go.Maps (Keyed)

/-- A value reads as itself. -/
def valR (v : Value) : Option (DataW Value × List MemPlace) := some (.held v, [])
theorem valR_inv {v : Value} {d : DataW Value} {ps : List MemPlace} (h : valR v = some (d, ps)) : d = .held v := by
  unfold valR at h
  injection h with h
  injection h with h _
  exact h.symm
/-- Keys, as the map's reader has them. -/
structure KeyL {κ : Type} (kl : κ → Lit) : Prop where
  key : ∀ x, WideAt.IsKeyLit (kl x)
  inj : ∀ x y, kl x = kl y → x = y
/-- The map in block b has f's values, n in all. -/
structure MpV {κ : Type} (P : Program) (k : TypeId) (kl : κ → Lit) (b : Nat) (f : κ → Option Value) (n : Nat) (w : World) : Prop where
  own : ∃ D : DataW Value, w.ownsMap P k valR b n D ∧ Maps.size D = n ∧ ∀ x z, D.atKey (kl x) z = match f x with | some v => .held v | none => z
/-- One value more, or another. -/
def putF {κ : Type} [DecidableEq κ] (f : κ → Option Value) (x : κ) (v : Value) : κ → Option Value := fun y => if y = x then some v else f y
section
variable {κ : Type} {kl : κ → Lit} {P : Program} {k t e : TypeId} {b n : Nat} {f : κ → Option Value} {w w' : World}
theorem ownsMap_blk {R : Value → Option (DataW Value × List MemPlace)} {D : DataW Value} (h : w.ownsMap P k R b n D) (e : w'.heap[b]? = w.heap[b]?) : w'.ownsMap P k R b n D := by
  obtain ⟨es, clock, hb, rest⟩ := h
  exact ⟨es, clock, e.trans hb, rest⟩
theorem ownsMap_siz {R : Value → Option (DataW Value × List MemPlace)} {D : DataW Value} (h : w.ownsMap P k R b n D) : w.ownsMap P k R b (Maps.size D) D := by
  obtain ⟨es, clock, hb, F, hs, hD⟩ := h
  refine ⟨es, clock, hb, F, ?_, hD⟩
  rw [hD]
  simp [Maps.size, length_sorted]
theorem MpV.of_block (h : MpV P k kl b f n w) (e : w'.heap[b]? = w.heap[b]?) : MpV P k kl b f n w' := by
  obtain ⟨D, h1, h2, h3⟩ := h.own
  exact ⟨D, ownsMap_blk h1 e, h2, h3⟩
theorem MpV.lt (h : MpV P k kl b f n w) : b < w.heap.size := by
  obtain ⟨D, h1, _⟩ := h.own
  exact h1.lt
theorem MpV.made (w : World) (P : Program) (k : TypeId) : MpV P k kl w.heap.size (fun _ => none) 0 (w.alloc (.map #[] 0)) :=
  ⟨.map [], World.ownsMap_made w P k valR, rfl, fun _ z => rfl⟩
/-- What is in the map at a key, and whether. -/
theorem MpV.look (h : MpV P k kl b f n w) (K : Keyed P k) (ht : P.underlying t = some (.map k e)) {z : Value} (hz : (zeroValue e).run P w = .ok z w) (C : KeyL kl) {key : Value} {x : κ} (hkey : keyOf P k key = some (kl x)) :
    (Instr.lookup t (.map (some b)) key true).run P w = .ok (.tuple #[(f x).getD z, .bool (f x).isSome]) w := by
  obtain ⟨D, h1, _, h2⟩ := h.own
  obtain ⟨v, ps, hrun, hv⟩ := h1.look_ok K ht hz (zd := .held z) (zp := []) rfl hkey
  have h3 := valR_inv hv
  rw [h2 x] at h3
  have hhas : Maps.has D (kl x) = (f x).isSome := by
    cases hf : f x with
    | none => exact Maps.has_false_of_atKey (fun z => by rw [h2 x, hf])
    | some u => exact Maps.has_true_of_atKey (y := .held u) (fun z => by rw [h2 x, hf])
  rw [hrun, hhas]
  cases hf : f x with
  | none =>
    rw [hf] at h3
    injection h3 with h3
    rw [← h3]
    rfl
  | some u =>
    rw [hf] at h3
    injection h3 with h3
    rw [← h3]
    rfl
theorem MpV.has (h : MpV P k kl b f n w) {D : DataW Value} (h2 : ∀ x z, D.atKey (kl x) z = match f x with | some v => .held v | none => z) (x : κ) : Maps.has D (kl x) = (f x).isSome := by
  cases hf : f x with
  | none => exact Maps.has_false_of_atKey (fun z => by rw [h2 x, hf])
  | some u => exact Maps.has_true_of_atKey (y := .held u) (fun z => by rw [h2 x, hf])
/-- One is put. -/
theorem MpV.put [DecidableEq κ] (h : MpV P k kl b f n w) (K : Keyed P k) (ht : P.underlying t = some (.map k e)) (hn : n < maxLen) (C : KeyL kl) {key val : Value} {x : κ} (hkey : keyOf P k key = some (kl x)) :
    ∃ w', (Instr.mapUpdate t (.map (some b)) key val).run P w = .ok () w' ∧ MpV P k kl b (putF f x val) (if (f x).isSome = true then n else n + 1) w' ∧ w.grownBy w' (some b) := by
  obtain ⟨D, h1, hs, h2⟩ := h.own
  obtain ⟨w', hrun, h3, h4⟩ := h1.update K ht hn hkey (show valR val = some (.held val, []) from rfl)
  have hsz : Maps.size (D.put (kl x) (.held val)) = if (f x).isSome = true then n else n + 1 := by
    rw [Maps.size_put (h1.tidy K), h.has h2 x, hs]
  refine ⟨w', hrun, ⟨_, by rw [← hsz]; exact ownsMap_siz h3, hsz, fun y z => ?_⟩, h4⟩
  unfold putF
  by_cases e : y = x
  · subst e
    rw [if_pos rfl]
    exact Maps.atKey_put_same h1.isMap (C.key _) _ z
  · rw [if_neg e]
    exact (Maps.atKey_put_other (fun q => e (C.inj _ _ q)) _ z).trans (h2 y z)
theorem MpV.len (h : MpV P k kl b f n w) (ht : P.underlying t = some (.map k e)) (ty : TypeId) : (Builtin.len_ #[t] ty #[.map (some b)]).run P w = .ok (.int .i64 n) w := by
  obtain ⟨D, h1, hs, _⟩ := h.own
  rw [h1.len ht ty, hs]
end
section
variable {κ : Type} {kl : κ → Lit} {P : Program} {k t e : TypeId} {b n : Nat} {f : κ → Option Value} {w : World} {ops : Array Oper} {rest : List Oper} {o : Oper} {a : Act} {Q : Exit → Act → World → Prop}
theorem wpList_look_mp (hg : o.guard = none) (m xo : Operand) (t : TypeId) (hop : o.op = Op.lookup t m xo true) (h : MpV P k kl b f n w) (K : Keyed P k) (ht : P.underlying t = some (.map k e)) {z : Value} (hz : (zeroValue e).run P w = .ok z w) (hm : a.eval m = .map (some b)) (C : KeyL kl) (key : Value) (x : κ) (hx : a.eval xo = key) (hkey : keyOf P k key = some (kl x))
    (hK : wpList P ops Q rest (a.put o.dst (.tuple #[(f x).getD z, .bool (f x).isSome])) w) : wpList P ops Q (o :: rest) a w := by
  refine wpList_plain hg fun K' hK' => ?_
  unfold Oper.wp
  simp [execOp, hop, hm, hx, h.look K ht hz C hkey, Result.andThen]
  exact hK' _ _ hK
theorem wpList_put_mp [DecidableEq κ] (hg : o.guard = none) (m xo v : Operand) (t : TypeId) (hop : o.op = Op.mapUpdate t m xo v) (h : MpV P k kl b f n w) (K : Keyed P k) (ht : P.underlying t = some (.map k e)) (hn : n < maxLen) (hm : a.eval m = .map (some b)) (C : KeyL kl) (key val : Value) (x : κ) (hx : a.eval xo = key) (hv : a.eval v = val) (hkey : keyOf P k key = some (kl x))
    (hK : ∀ w', MpV P k kl b (putF f x val) (if (f x).isSome = true then n else n + 1) w' → w.grownBy w' (some b) → wpList P ops Q rest (a.put o.dst undef) w') : wpList P ops Q (o :: rest) a w := by
  refine wpList_plain hg fun K' hK' => ?_
  obtain ⟨w', hrun, r1, r2⟩ := h.put K ht hn C (val := val) hkey
  unfold Oper.wp
  simp [execOp, hop, hm, hx, hv, hrun, Result.andThen]
  exact hK' _ _ (hK w' r1 r2)
theorem wpList_len_mp (hg : o.guard = none) (m : Operand) (t : TypeId) (hop : o.op = Op.call { callee := Callee.builtin Builtin.len, args := #[m], argTypes := #[t] }) (h : MpV P k kl b f n w) (ht : P.underlying t = some (.map k e)) (hm : a.eval m = .map (some b))
    (hK : wpList P ops Q rest (a.put o.dst (.int .i64 n)) w) : wpList P ops Q (o :: rest) a w := by
  refine wpList_plain hg fun K' hK' => ?_
  unfold Oper.wp
  simp [execOp, hop, resolve, invoke, builtin, hm, h.len ht o.type, Result.andThen]
  exact hK' _ _ hK
end
theorem keyBytes_byt : ∀ l : List UInt8, keyBytes (litsB l) = l
  | [] => rfl
  | b :: l => by
    have h := keyBytes_byt l
    unfold keyBytes litsB at h ⊢
    rw [List.map_cons, List.flatMap_cons, h]
    have hb : (Lit.int .u8 (b.toNat : Int)).keyBytes = [b] := by
      show bytesBE 1 (((b.toNat : Int)) % 2 ^ 8).toNat = [b]
      have hlt := b.toNat_lt
      have e : (((b.toNat : Int)) % 2 ^ 8).toNat = b.toNat := by omega
      rw [e]
      simp [bytesBE, bytesLE]
    rw [hb]
    rfl
theorem strKeys : KeyL Lit.string := ⟨fun _ => trivial, fun x y h => by injection h⟩
theorem laid8 : laidOutB Tryz.prog = true := by kernel_rfl
theorem row37 : (32 : TypeId) < Tryz.prog.types.size := of_decide_eq_true (by kernel_rfl)
theorem keyed37 : Keyed Tryz.prog 32 := Keyed.of_law (deep_law_laid laid8 (m := 2) (by omega) row37 (by kernel_rfl) (by rw [Tryz.underlying32]))
theorem key37 (l : List UInt8) (h : l.length = 32) : keyOf Tryz.prog 32 (.agg (bytV l).toArray) = some (.string l) := by
  obtain ⟨m, hm⟩ : ∃ m, Tryz.prog.types.size = m + 1 := ⟨Tryz.prog.types.size - 1, by have h0 : (0 : Nat) < Tryz.prog.types.size := of_decide_eq_true (by kernel_rfl); omega⟩
  have hkt : Tryz.prog.keyType 32 = true := by kernel_rfl
  have hc : Tryz.prog.cellsOf 32 = 32 := by kernel_rfl
  have hf : Value.formed Tryz.prog 32 (.agg (bytV l).toArray) = true := by
    simp [Value.formed, Tryz.underlying32, hc, bytV_len, h]
  unfold keyOf
  simp only [Tryz.underlying32]
  rw [if_pos (by rw [hkt, hf]; rfl), hm]
  have := lits_byt Tryz.prog 32 5 32 m Tryz.underlying32 Tryz.underlying5 (by kernel_rfl) hc l h
  show (Tryz.prog.keyLits (m + 2) 32 (bytV l)).map _ = _
  rw [this]
  show some (Lit.string (keyBytes (litsB l))) = _
  rw [keyBytes_byt]
end Go.Proofs.YtdhaanaenklleaaGreatDoor
namespace Go.Proofs.YtdhaanaenklleaaGreatDoor
set_option linter.unusedVariables false
set_option linter.unusedSimpArgs false
open Go.ChangeShapes Go.WideShapes Go.ChangeAt Go.RowKit

/-- The store: its block, and its maps; T: these four. -/
structure Sto (T : Nat → Prop) (b : Nat) (fb ft fc : List UInt8 → Option Value) (nb nt nc : Nat) (w : World) : Prop where
  f : ∃ m1 m2 m3, w.heap[b]? = some (.cells #[.map (some m1), .map (some m2), .map (some m3)] 81 (0, 0)) ∧ MpV Tryz.prog 32 Lit.string m1 fb nb w ∧ MpV Tryz.prog 32 Lit.string m2 ft nt w ∧ MpV Tryz.prog 32 Lit.string m3 fc nc w ∧ (b ≠ m1 ∧ b ≠ m2 ∧ b ≠ m3 ∧ m1 ≠ m2 ∧ m1 ≠ m3 ∧ m2 ≠ m3) ∧ (T b ∧ T m1 ∧ T m2 ∧ T m3)
section
variable {T : Nat → Prop} {b : Nat} {fb ft fc : List UInt8 → Option Value} {nb nt nc : Nat} {w w' : World}
theorem Sto.same (k : Sto T b fb ft fc nb nt nc w) (h : ∀ q, T q → w'.heap[q]? = w.heap[q]?) : Sto T b fb ft fc nb nt nc w' := by
  obtain ⟨m1, m2, m3, h1, h2, h3, h4, h5, h6⟩ := k.f
  exact ⟨m1, m2, m3, (h _ h6.1).trans h1, h2.of_block (h _ h6.2.1), h3.of_block (h _ h6.2.2.1), h4.of_block (h _ h6.2.2.2), h5, h6⟩
theorem Sto.mono {T2 : Nat → Prop} (k : Sto T b fb ft fc nb nt nc w) (h : ∀ q, T q → T2 q) : Sto T2 b fb ft fc nb nt nc w := by
  obtain ⟨m1, m2, m3, h1, h2, h3, h4, h5, h6⟩ := k.f
  exact ⟨m1, m2, m3, h1, h2, h3, h4, h5, h _ h6.1, h _ h6.2.1, h _ h6.2.2.1, h _ h6.2.2.2⟩
end
set_option maxRecDepth 100000 in
set_option maxHeartbeats 1000000 in
/-- One that has nothing. -/
theorem new_any (w : World) : Calls Tryz.prog 12 #[] w fun e w' => ∃ b, e = .returned (.pointer (some ⟨b, 0, none⟩)) ∧ Sto (fun k => w.heap.size ≤ k ∧ k < w'.heap.size) b (fun _ => none) (fun _ => none) (fun _ => none) 0 0 0 w' ∧ Below w.heap.size w w' := by
  have hmm := @run_makeMap Tryz.prog
  have hk : ∀ x : World, ((x.alloc (.map #[] 0)).heap.size = x.heap.size + 1) := fun x => by simp
  obtain ⟨wa, hwa⟩ : ∃ x, x = w.alloc (.map #[] 0) := ⟨_, rfl⟩
  have A1 := MpV.made (kl := Lit.string) w Tryz.prog 32
  have B1 := (Below.refl w.heap.size w).alloc (Nat.le_refl _) (.map #[] 0)
  have s1 := hk w
  rw [← hwa] at A1 B1 s1
  obtain ⟨wb, hwb⟩ : ∃ x, x = wa.alloc (.map #[] 0) := ⟨_, rfl⟩
  have A2 := MpV.made (kl := Lit.string) wa Tryz.prog 32
  have B2 := (Below.refl wa.heap.size wa).alloc (Nat.le_refl _) (.map #[] 0)
  have s2 := hk wa
  rw [← hwb] at A2 B2 s2
  obtain ⟨wc, hwc⟩ : ∃ x, x = wb.alloc (.map #[] 0) := ⟨_, rfl⟩
  have A3 := MpV.made (kl := Lit.string) wb Tryz.prog 32
  have B3 := (Below.refl wb.heap.size wb).alloc (Nat.le_refl _) (.map #[] 0)
  have s3 := hk wb
  rw [← hwc] at A3 B3 s3
  obtain ⟨wd, hwd⟩ : ∃ x, x = wc.alloc (.cells #[.map (some w.heap.size), .map (some wa.heap.size), .map (some wb.heap.size)] 81) := ⟨_, rfl⟩
  have A4 := heap_alloc_new wc (.cells #[.map (some w.heap.size), .map (some wa.heap.size), .map (some wb.heap.size)] 81)
  have B4 := (Below.refl wc.heap.size wc).alloc (Nat.le_refl _) (.cells #[.map (some w.heap.size), .map (some wa.heap.size), .map (some wb.heap.size)] 81)
  have s4 : (wc.alloc (.cells #[.map (some w.heap.size), .map (some wa.heap.size), .map (some wb.heap.size)] 81)).heap.size = wc.heap.size + 1 := by simp
  rw [← hwd] at A4 B4 s4
  have hall := Lib.hid (show Sto (fun k => w.heap.size ≤ k ∧ k < wd.heap.size) wc.heap.size (fun _ => none) (fun _ => none) (fun _ => none) 0 0 0 wd from
    ⟨w.heap.size, wa.heap.size, wb.heap.size, A4, ((A1.of_block (B2.block _ (by omega))).of_block (B3.block _ (by omega))).of_block (B4.block _ (by omega)), (A2.of_block (B3.block _ (by omega))).of_block (B4.block _ (by omega)), A3.of_block (B4.block _ (by omega)), by omega, by omega⟩)
  have hbel := Lib.hid (show Below w.heap.size w wd from B1.trans ((B2.mono (by omega)).trans ((B3.mono (by omega)).trans (B4.mono (by omega)))))
  have hz1 : wa.heap.size = w.heap.size + 1 := s1
  have hz2 : wb.heap.size = w.heap.size + 1 + 1 := by omega
  have hz3 : wc.heap.size = w.heap.size + 1 + 1 + 1 := by omega
  clear A1 A2 A3 A4 B1 B2 B3 B4 s1 s2 s3 s4 hk
  rw [hz3] at hall
  rw [hz1, hz2] at hwd
  rw [hwc, hwb, hwa] at hwd
  clear hz1 hz2 hz3 hwa hwb hwc
  subst hwd
  go_enter Tryz.func12, Tryz.ntmps12
  go_wp2_with fail
  go_ret
  exact ⟨_, rfl, hall.out, hbel.out⟩
end Go.Proofs.YtdhaanaenklleaaGreatDoor
namespace Go.Proofs.YtdhaanaenklleaaGreatDoor
set_option linter.unusedVariables false
set_option linter.unusedSimpArgs false
open Go.ChangeShapes Go.WideShapes Go.ChangeAt Go.RowKit

theorem wpQuiet_len_mp {P : Program} {C : World → Prop} {ops : Array Oper} {rest : List Oper} {o : Oper} {a : Act} {Q : Act → Prop} (hw : Region.wanted o (yielded ops a.tmps) = true) (m : Operand) (t : TypeId) (ho : o.op = .call { callee := .builtin .len, args := #[m], argTypes := #[t] })
    (b : Nat) (hm : a.eval m = .map (some b)) (n : Nat) (hr : ∀ w, C w → (Builtin.len_ #[t] o.type #[.map (some b)]).run P w = .ok (.int .i64 n) w)
    (h : wpQuiet P ops C Q rest (a.put o.dst (.int .i64 n))) : wpQuiet P ops C Q (o :: rest) a := by
  refine Go.BigFrame.wpQuiet_want hw fun K hK => ⟨.int .i64 n, fun w hw => ?_, hK _ h⟩
  unfold Oper.quietAt execOp
  simp [ho, resolve, invoke, builtin, hm, hr w hw, Result.andThen]
  exact ⟨rfl, rfl⟩
theorem Sto.loads {T : Nat → Prop} {b : Nat} {fb ft fc : List UInt8 → Option Value} {nb nt nc : Nat} {w : World} (k : Sto T b fb ft fc nb nt nc w) : ∃ m1 m2 m3, w.heap[b]? = some (.cells #[.map (some m1), .map (some m2), .map (some m3)] 81 (0, 0)) ∧
    (∀ w', Below w.heap.size w w' → (loadVar 77 ⟨b, 0, none⟩).run Tryz.prog w' = .ok (.map (some m1)) w') ∧ (∀ w', Below w.heap.size w w' → (loadVar 78 ⟨b, 1, none⟩).run Tryz.prog w' = .ok (.map (some m2)) w') ∧ (∀ w', Below w.heap.size w w' → (loadVar 79 ⟨b, 2, none⟩).run Tryz.prog w' = .ok (.map (some m3)) w') ∧
    (∀ w', Below w.heap.size w w' → (Builtin.len_ #[77] 3 #[.map (some m1)]).run Tryz.prog w' = .ok (.int .i64 nb) w') ∧ (∀ w', Below w.heap.size w w' → (Builtin.len_ #[78] 3 #[.map (some m2)]).run Tryz.prog w' = .ok (.int .i64 nt) w') ∧ (∀ w', Below w.heap.size w w' → (Builtin.len_ #[79] 3 #[.map (some m3)]).run Tryz.prog w' = .ok (.int .i64 nc) w') := by
  obtain ⟨m1, m2, m3, h1, h2, h3, h4, h5, h6⟩ := k.f
  have hc : ∀ w' (i : Nat) v, Below w.heap.size w w' → (#[Value.map (some m1), .map (some m2), .map (some m3)] : Array Value)[i]? = some v → w'.cell? ⟨b, i, none⟩ = some v := fun w' i v hB hv => by
    rw [block_cell ((hB.block b (lt_of_block h1)).trans h1) i]
    exact hv
  refine ⟨m1, m2, m3, h1, fun w' hB => ?_, fun w' hB => ?_, fun w' hB => ?_, fun w' hB => (h2.of_block (hB.block _ h2.lt)).len Tryz.underlying77 3, fun w' hB => (h3.of_block (hB.block _ h3.lt)).len Tryz.underlying78 3, fun w' hB => (h4.of_block (hB.block _ h4.lt)).len Tryz.underlying79 3⟩
  · have h := hc w' 0 _ hB rfl
    simp [go_sem, h]
  · have h := hc w' 1 _ hB rfl
    simp [go_sem, h]
  · have h := hc w' 2 _ hB rfl
    simp [go_sem, h]
set_option maxRecDepth 100000 in
set_option maxHeartbeats 1000000 in
theorem size_any {T : Nat → Prop} {b : Nat} {fb ft fc : List UInt8 → Option Value} {nb nt nc : Nat} {w : World} (k : Sto T b fb ft fc nb nt nc w) (h1 : nb ≤ 1048576) (h2 : nt ≤ 1048576) (h3 : nc ≤ 1048576) :
    Calls Tryz.prog 25 #[.pointer (some ⟨b, 0, none⟩)] w fun e w' => e = .returned (.int .i64 ((nb + nt + nc : Nat) : Int)) ∧ Below w.heap.size w w' := by
  obtain ⟨m1, m2, m3, hb, l1, l2, l3, z1, z2, z3⟩ := k.loads
  have HL1 := Lib.hid l1
  have HL2 := Lib.hid l2
  have HL3 := Lib.hid l3
  have HZ1 := Lib.hid z1
  have HZ2 := Lib.hid z2
  have HZ3 := Lib.hid z3
  have hs : ((nb + nt + nc : Nat) : Int) = (nb : Int) + (nt : Int) + (nc : Int) := by omega
  rw [hs]
  have hw1 : IntKind.i64.wrap ((nb : Int) + (nt : Int)) = (nb : Int) + (nt : Int) := by
    unfold IntKind.wrap
    simp [IntKind.bits, IntKind.signed, IntKind.min, IntKind.max]
    omega
  have hw2 : IntKind.i64.wrap ((nb : Int) + (nt : Int) + (nc : Int)) = (nb : Int) + (nt : Int) + (nc : Int) := by
    unfold IntKind.wrap
    simp [IntKind.bits, IntKind.signed, IntKind.min, IntKind.max]
    omega
  clear l1 l2 l3 z1 z2 z3 hb hs
  go_enter Tryz.func25, Tryz.ntmps25
  go_wp2_with fail
  refine wp_region_class (Below w.heap.size w) (by kernel_rfl) (by kernel_rfl) (Below.refl _ _).drew ?_
  repeat (go_big_quiet_step (first | (intro _; rfl)))
  refine wpQuiet_load_at rfl 77 (.tmp 7) rfl ⟨b, 0, none⟩ rfl (.map (some m1)) HL1.out ?_
  simp only [Act.put, List.setIfInBounds_toArray, List.set_cons_succ, List.set_cons_zero]
  refine wpQuiet_len_mp rfl (.tmp 8) 77 rfl m1 rfl nb HZ1.out ?_
  simp only [Act.put, List.setIfInBounds_toArray, List.set_cons_succ, List.set_cons_zero]
  repeat (go_big_quiet_step (first | (intro _; rfl)))
  refine wpQuiet_load_at rfl 78 (.tmp 12) rfl ⟨b, 1, none⟩ rfl (.map (some m2)) HL2.out ?_
  simp only [Act.put, List.setIfInBounds_toArray, List.set_cons_succ, List.set_cons_zero]
  refine wpQuiet_len_mp rfl (.tmp 13) 78 rfl m2 rfl nt HZ2.out ?_
  simp only [Act.put, List.setIfInBounds_toArray, List.set_cons_succ, List.set_cons_zero]
  repeat (go_big_quiet_step (first | (intro _; rfl)))
  refine wpQuiet_load_at rfl 79 (.tmp 18) rfl ⟨b, 2, none⟩ rfl (.map (some m3)) HL3.out ?_
  simp only [Act.put, List.setIfInBounds_toArray, List.set_cons_succ, List.set_cons_zero]
  refine wpQuiet_len_mp rfl (.tmp 19) 79 rfl m3 rfl nc HZ3.out ?_
  simp only [Act.put, List.setIfInBounds_toArray, List.set_cons_succ, List.set_cons_zero]
  repeat (go_big_quiet_step (first | (intro _; rfl)))
  refine wpQuiet_nil ?_
  intro w5 hBq
  have HE := Lib.hid hBq
  clear hBq
  try simp only [hw1, hw2]
  go_wp2_with fail
  go_ret
  exact ⟨rfl, HE.out⟩
end Go.Proofs.YtdhaanaenklleaaGreatDoor
