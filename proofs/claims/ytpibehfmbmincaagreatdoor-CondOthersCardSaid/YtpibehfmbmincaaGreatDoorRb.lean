/- Walks: the document's cuts and words. -/
import Derived.Test.YtpibehfmbmincaaGreatDoorRa
import Derived.Deep.Onto
import Derived.Deep.AppendLies
namespace Go.Proofs.YtpibehfmbmincaaGreatDoor
set_option linter.unusedVariables false
open Go.ChangeShapes Go.WideShapes Go.ChangeAt Go.RowKit

set_option maxHeartbeats 1000000 in
theorem rcut_any (s : ByteArray) (c : UInt8) (w : World) (hs : s.size ≤ 1073741824) :
    Calls Tryz.prog 37 #[.string s, .int .u8 (c.toNat : Int)] w fun e w' => ∃ v, e = .returned v ∧ w'.ownsRow w.heap.size 9 1 v (cutB c s).length ((cutB c s).map Value.string) ∧ Below w.heap.size w w' := by
  obtain ⟨i0, hi, hz0, hz1, hz2⟩ := info_parts Tryz.info9
  go_enter Tryz.func37, Tryz.ntmps37
  go_wp2_with fail
  go_loopg [5, 6, 7] (s.size + 1) (fun g ov fv iv wr => ∃ (i f : Nat) (acc : List (List UInt8)), i + g = s.size + 1 ∧ iv = .int .i64 i ∧ fv = .int .i64 f ∧ acc.length ≤ i ∧ CutAt c s acc f i ∧ wr.ownsRow w.heap.size 9 1 ov acc.length ((acc.map mkB).map Value.string) ∧ Below w.heap.size w wr)
  case atStart => exact ⟨0, 0, [], by omega, rfl, rfl, by simp, CutAt.start _ _, World.ownsRow_nil _ _ _ _, Below.refl _ _⟩
  case round =>
    obtain ⟨i, f, acc, hig, rfl, rfl, hal, hcut, hown, hB⟩ := hrel
    have HC := Lib.hid hcut
    have hBs := hB.size
    clear hcut
    by_cases hle : i ≤ s.size
    · have hf := HC.out.f_le hle
      have hfI : (f : Int) ≤ (i : Int) := by omega
      have hxe := extract_mk s f i
      have Hxe := Lib.hid hxe
      clear hxe
      by_cases hend : i = s.size
      · subst hend
        have h1 : ((s.size : Int) == (s.size : Int)) = true := by simp
        have hl := HC.out.last
        have HL := Lib.hid hl
        clear hl
        go_wp2_with (at_builtin; go_must (refine wpList_append_own _ rfl (.tmp 25) (.tmp 30) 22 rfl w.heap.size 9 i0 (.string ⟨#[]⟩) 1 16 Tryz.underlying22 hi hz0 hz1 hz2 rfl (by decide) _ _ _ rfl (hown.alloc _) ⟨wr.heap.size, 0, none⟩ 1 1 [.string (s.extract f s.size)] rfl rfl (cell_one_new _ _ _) (by intro u hu; simp at hu; subst hu; rfl) (by unfold maxLen; omega) (by omega) (by simp; omega) ?_); intro v2 w2 hown2 hgrow2 _)
        have hB2 := (hB.alloc hBs (Obj.cells #[Value.string (s.extract f s.size)] 9)).grown hgrow2 (by simp; omega) (fun k hk => (hown.lt k hk).1)
        rw [Hxe.out, show (acc.map mkB).map Value.string ++ [Value.string (mkB ((s.data.toList.drop f).take (s.size - f)))] = ((acc ++ [(s.data.toList.drop f).take (s.size - f)]).map mkB).map Value.string by simp] at hown2
        go_roundg (gk - 1)
        case measure => omega
        case rel => exact ⟨s.size + 1, s.size + 1, acc ++ [(s.data.toList.drop f).take (s.size - f)], by omega, by go_num, by go_num, by simp; omega, HL.out, by simpa using hown2, hB2⟩
      · have hlt : i < s.size := by omega
        have hltI : (i : Int) < (s.size : Int) := by omega
        have h1 : ((i : Int) == (s.size : Int)) = false := by simp; omega
        by_cases hc : s[i]'hlt = c
        · have h2 : (((s[i]'hlt).toNat : Int) == (c.toNat : Int)) = true := by rw [hc]; simp
          have hl := HC.out.hit hlt hc
          have HL := Lib.hid hl
          clear hl hc
          go_wp2_with (at_builtin; go_must (refine wpList_append_own _ rfl (.tmp 25) (.tmp 30) 22 rfl w.heap.size 9 i0 (.string ⟨#[]⟩) 1 16 Tryz.underlying22 hi hz0 hz1 hz2 rfl (by decide) _ _ _ rfl (hown.alloc _) ⟨wr.heap.size, 0, none⟩ 1 1 [.string (s.extract f i)] rfl rfl (cell_one_new _ _ _) (by intro u hu; simp at hu; subst hu; rfl) (by unfold maxLen; omega) (by omega) (by simp; omega) ?_); intro v2 w2 hown2 hgrow2 _)
          have hB2 := (hB.alloc hBs (Obj.cells #[Value.string (s.extract f i)] 9)).grown hgrow2 (by simp; omega) (fun k hk => (hown.lt k hk).1)
          rw [Hxe.out, show (acc.map mkB).map Value.string ++ [Value.string (mkB ((s.data.toList.drop f).take (i - f)))] = ((acc ++ [(s.data.toList.drop f).take (i - f)]).map mkB).map Value.string by simp] at hown2
          go_roundg (gk - 1)
          case measure => omega
          case rel => exact ⟨i + 1, i + 1, acc ++ [(s.data.toList.drop f).take (i - f)], by omega, by go_num, by go_num, by simp; omega, HL.out, by simpa using hown2, hB2⟩
        · have h2 : (((s[i]'hlt).toNat : Int) == (c.toNat : Int)) = false := by
            rw [beq_eq_false_iff_ne]; intro e; exact hc (UInt8.toNat_inj.1 (by omega))
          have hl := HC.out.miss hlt hc
          have HL := Lib.hid hl
          clear hl hc
          go_wp2_with fail
          go_roundg (gk - 1)
          case measure => omega
          case rel => exact ⟨i + 1, f, acc, by omega, by go_num, by go_num, by omega, HL.out, hown, hB⟩
    · have hd : acc = cuts c [] s.data.toList := by
        rcases HC.out with ⟨_, h2, _⟩ | ⟨_, h2⟩
        · omega
        · exact h2
      have Hd := Lib.hid hd
      clear hd
      go_wp2_with fail
      go_ret
      exact ⟨_, rfl, by unfold cutB; rw [← Hd.out, List.length_map]; exact hown, hB⟩

theorem some1_mk (l : List UInt8) : some1 (mkB l) = ne1 l := by
  unfold some1 ne1
  rw [mkB_size]
  cases l <;> rfl
theorem words_cut (s : ByteArray) : ((cutB 32 s).flatMap (cutB 9)).filter some1 = wordsB s := by
  unfold wordsB
  rw [← wF_cuts s.data.toList.length s.data.toList (Nat.le_refl _)]
  have h : ∀ L : List (List UInt8), ((L.map mkB).flatMap (cutB 9)).filter some1 = ((L.flatMap (cuts 9 [])).filter ne1).map mkB := by
    intro L
    induction L with
    | nil => rfl
    | cons a r ih =>
      rw [List.map_cons, List.flatMap_cons, List.flatMap_cons, List.filter_append, List.filter_append, List.map_append, ih]
      congr 1
      unfold cutB
      rw [mkB_toList, List.filter_map]
      congr 1
      exact List.filter_congr fun x _ => some1_mk x
  exact h _
theorem flat_take (X : List ByteArray) (i : Nat) (h : i < X.length) : ((X.take (i + 1)).flatMap (cutB 9)).filter some1 = ((X.take i).flatMap (cutB 9)).filter some1 ++ (cutB 9 (X.getD i ByteArray.empty)).filter some1 := by
  rw [List.take_succ_eq_append_getElem h, List.flatMap_append, List.filter_append]
  simp only [List.flatMap_cons, List.flatMap_nil, List.append_nil, List.getD_eq_getElem?_getD, List.getElem?_eq_getElem h, Option.getD_some]
theorem filt_take (Y : List ByteArray) (j : Nat) (h : j < Y.length) : (Y.take (j + 1)).filter some1 = (Y.take j).filter some1 ++ [Y.getD j ByteArray.empty].filter some1 := by
  rw [List.take_succ_eq_append_getElem h, List.filter_append]
  simp only [List.getD_eq_getElem?_getD, List.getElem?_eq_getElem h, Option.getD_some]
theorem mul_small {a b N : Nat} (ha : a ≤ N) (hb : b ≤ N) : a * b ≤ N * N := Nat.mul_le_mul ha hb

theorem text_keep {wr w3 : World} {o : Obj} {ov v3 : Value} {g2 m : Nat} {F : Nat → Option Value} (hg : (wr.alloc o).grownBy w3 ov.ownBlock) (hwh : v3.ownBlock = ov.ownBlock ∨ v3.ownBlock = some (wr.alloc o).heap.size) (hlt : g2 < wr.heap.size) (hkn : ∀ k, ov.ownBlock = some k → k ≠ g2) (hcl : ∀ j, j < m → wr.cell? ⟨g2, j, none⟩ = F j) :
    (∀ k, v3.ownBlock = some k → k ≠ g2) ∧ (∀ j, j < m → w3.cell? ⟨g2, j, none⟩ = F j) ∧ g2 < w3.heap.size := by
  refine ⟨fun k hk => ?_, fun j hj => ?_, ?_⟩
  · rcases hwh with e | e
    · exact hkn k (e.symm.trans hk)
    · have h := Option.some.inj (e.symm.trans hk)
      simp at h
      omega
  · have h2 := hg.cell_far ⟨g2, j, none⟩ (by show g2 < (wr.alloc o).heap.size; simp; omega) (fun e => hkn g2 e.symm rfl)
    rw [h2, World.cell?_alloc_lt _ _ _ hlt]
    exact hcl j hj
  · have := hg.size
    simp at this
    omega

set_option maxRecDepth 100000 in
set_option maxHeartbeats 2000000 in
theorem rwords_any (s : ByteArray) (w : World) (hs : s.size ≤ 65536) :
    Calls Tryz.prog 23 #[.string s] w fun e w' => ∃ v, e = .returned v ∧ w'.ownsRow w.heap.size 9 1 v (wordsB s).length ((wordsB s).map Value.string) ∧ Below w.heap.size w w' := by
  obtain ⟨i0, hi, hz0, hz1, hz2⟩ := info_parts Tryz.info9
  have HX := Lib.hid (rcut_any s 32 w (by omega))
  rw [show ((32 : UInt8).toNat : Int) = 32 from rfl] at HX
  have hxl := sums_cutB 32 s
  have hxp := cutB_ne 32 s
  have hxm := sums_mem (cutB 32 s)
  have HW := Lib.hid (words_cut s)
  obtain ⟨X, hXe⟩ : ∃ X, X = cutB 32 s := ⟨_, rfl⟩
  rw [← hXe] at HX hxl hxp hxm HW
  obtain ⟨W, hWe⟩ : ∃ W, W = wordsB s := ⟨_, rfl⟩
  rw [← hWe] at HW ⊢
  have HE := Lib.hid (fun (x : ByteArray) (hx : x ∈ X) w1 => rcut_any x 9 w1 (by have := hxm x hx; omega))
  rw [show ((9 : UInt8).toNat : Int) = 9 from rfl] at HE
  have HZ := Lib.hid (fun (x : ByteArray) (hx : x ∈ X) => hxm x hx)
  obtain ⟨n, hn⟩ : ∃ n, n = X.length := ⟨_, rfl⟩
  rw [← hn] at HX hxl hxp
  have Hn := Lib.hid hn
  clear hxm hXe hWe hn
  go_enter Tryz.func23, Tryz.ntmps23
  go_wp2_with fail
  refine HX.out.mono ?_
  rintro e w1 ⟨v1, rfl, hown1, hB1⟩
  rw [Hn.out] at hown1
  obtain ⟨g1, cap1, rfl, hg1b, hg1l, hg1c, hg1m, hcl1⟩ := row_cells hown1 (by have := Hn.out; omega)
  rw [← Hn.out] at hg1c hcl1 ⊢
  have HCL := Lib.hid (fun w2 (h2 : Below w1.heap.size w1 w2) j (hj : j < n) => (h2.cell (p := ⟨g1, j, none⟩) hg1l).trans (hcl1 j hj))
  have HB1 := Lib.hid hB1
  have hB1s := hB1.size
  clear hown1 hcl1 hB1 HX
  go_wp2_with fail
  go_loopg [3, 5, 7, 11] n (fun g ov _ _ iv wr => ∃ (i : Nat) (A : List ByteArray), i + g = n ∧ iv = .int .i64 i ∧ A = ((X.take i).flatMap (cutB 9)).filter some1 ∧ A.length ≤ i * 65537 ∧ wr.ownsRow w1.heap.size 9 1 ov A.length (A.map Value.string) ∧ Below w1.heap.size w1 wr)
  case atStart => exact ⟨0, [], by omega, rfl, rfl, by simp, World.ownsRow_nil _ _ _ _, Below.refl _ _⟩
  case round =>
    obtain ⟨i, A, hig, rfl, hA, hAl, hown, hB⟩ := hrel
    by_cases hlt : i < n
    · have hltI : (i : Int) < (n : Int) := by omega
      have hkl : i < X.length := by have := Hn.out; omega
      have hc := HCL.out wr hB i hlt
      have hgr : g1 < wr.heap.size := Nat.lt_of_lt_of_le hg1l hB.size
      have hcall := HE.out _ (getD_mem hkl) wr
      have hxz := HZ.out _ (getD_mem hkl)
      have hyl := sums_cutB 9 (X.getD i ByteArray.empty)
      have hyp := cutB_ne 9 (X.getD i ByteArray.empty)
      have Hft := Lib.hid (flat_take X i hkl)
      rw [← hA] at Hft
      obtain ⟨x, hx⟩ : ∃ x, x = X.getD i ByteArray.empty := ⟨_, rfl⟩
      rw [← hx] at hc hcall hxz hyl hyp Hft
      obtain ⟨Y, hY⟩ : ∃ Y, Y = cutB 9 x := ⟨_, rfl⟩
      rw [← hY] at hcall hyl hyp Hft
      obtain ⟨m, hm⟩ : ∃ m, m = Y.length := ⟨_, rfl⟩
      have Hm := Lib.hid hm
      rw [← hm] at hcall hyl hyp
      have hmz : m ≤ 65537 := by omega
      have Hcall := Lib.hid hcall
      have Hown := Lib.hid hown
      have hBs := hB.size
      clear hcall hown hx hY hm hA
      obtain ⟨gko, rfl⟩ : ∃ g, g = gk := ⟨gk, rfl⟩
      obtain ⟨wo, rfl⟩ : ∃ wo, wo = wr := ⟨wr, rfl⟩
      go_wp2_with fail
      refine Hcall.out.mono ?_
      rintro e w2 ⟨v2, rfl, hown2, hB2⟩
      rw [Hm.out] at hown2
      obtain ⟨g2, cap2, rfl, hg2b, hg2l, hg2c, hg2m, hcl2⟩ := row_cells hown2 (by have := Hm.out; omega)
      rw [← Hm.out] at hg2c hcl2 ⊢
      have HCL2 := Lib.hid hcl2
      have HA2 := Lib.hid (ownsRow_below Hown.out hB2)
      have HK2 := Lib.hid (fun k hk => (by have := (Hown.out.lt k hk).2; omega : k ≠ g2))
      have hb2 := hB.trans (hB2.mono hBs)
      have hb2s := hb2.size
      have Hb2 := Lib.hid hb2
      clear hown2 hcl2 hB2 hb2
      have hprod : i * 65537 ≤ 65536 * 65537 := Nat.mul_le_mul_right _ (by omega)
      go_wp2_with fail
      go_loopg [3, 7, 18] m (fun g ov _ jv wr => ∃ (j : Nat) (C : List ByteArray), j + g = m ∧ jv = .int .i64 j ∧ C = A ++ (Y.take j).filter some1 ∧ C.length ≤ A.length + j ∧ wr.ownsRow w1.heap.size 9 1 ov C.length (C.map Value.string) ∧ (∀ k, ov.ownBlock = some k → k ≠ g2) ∧ (∀ j, j < m → wr.cell? ⟨g2, j, none⟩ = some (.string (Y.getD j ByteArray.empty))) ∧ g2 < wr.heap.size ∧ Below w1.heap.size w1 wr)
      case atStart => exact ⟨0, A, by omega, rfl, by simp, by omega, HA2.out, HK2.out, HCL2.out, hg2l, Hb2.out⟩
      case round =>
        obtain ⟨j, C, hjg, rfl, hC, hCl, hown, hkn, hcl, hgr2, hB3⟩ := hrel
        by_cases hjm : j < m
        · have hjI : (j : Int) < (m : Int) := by omega
          have hkj : j < Y.length := by have := Hm.out; omega
          have hc := hcl j hjm
          have Hfl := Lib.hid (filt_take Y j hkj)
          obtain ⟨y, hy⟩ : ∃ y, y = Y.getD j ByteArray.empty := ⟨_, rfl⟩
          rw [← hy] at hc Hfl
          have HC' := Lib.hid hC
          have h3s := hB3.size
          have Hcl := Lib.hid hcl
          have Hkn := Lib.hid hkn
          clear hy hC hcl hkn
          cases hy1 : some1 y with
          | true =>
            have ht := toList_some y hy1
            have Hfl2 := Lib.hid (show [y].filter some1 = [y] by rw [List.filter_cons, if_pos hy1]; rfl)
            clear hy1
            go_wp2_with (at_builtin; go_must (refine wpList_append_text rfl (.tmp 24) (.tmp 26) rfl w1.heap.size _ C rfl (hown.alloc _) ⟨wr.heap.size, 0, none⟩ 1 y rfl (one_new _ _ _) (by omega) (by simp; omega) ?_); intro v3 w3 hown3 hgrow3 hwh3; have hb3 := (hB3.alloc h3s _).grown hgrow3 (by simp; omega) (fun k hk => (hown.lt k hk).1); have htk3 := Lib.hid (text_keep hgrow3 hwh3 hgr2 Hkn.out Hcl.out); clear hgrow3 hwh3 hB3)
            go_roundg (gk - 1)
            case measure => omega
            case rel => exact ⟨j + 1, C ++ [y], by omega, by go_num, by rw [Hfl.out, Hfl2.out, HC'.out, List.append_assoc], by simp; omega, hown3, htk3.out.1, htk3.out.2.1, htk3.out.2.2, hb3⟩
          | false =>
            have hy0 := empty_of y hy1
            subst hy0
            have Hfl2 := Lib.hid (show [(⟨#[]⟩ : ByteArray)].filter some1 = [] by rfl)
            clear hy1
            go_wp2_with fail
            go_roundg (gk - 1)
            case measure => omega
            case rel => exact ⟨j + 1, C, by omega, by go_num, by rw [Hfl.out, Hfl2.out, List.append_nil]; exact HC'.out, by omega, hown, Hkn.out, Hcl.out, hgr2, hB3⟩
        · obtain rfl : j = m := by omega
          have hjI : ¬ (j : Int) < (j : Int) := by omega
          have htk : Y.take j = Y := by rw [Hm.out, List.take_length]
          rw [htk] at hC
          have HC' := Lib.hid hC
          clear hC htk hcl hkn
          go_wp2_with fail
          go_roundg (gko - 1)
          case measure => omega
          case rel => exact ⟨i + 1, C, by omega, by go_num, by rw [HC'.out, Hft.out], by rw [Nat.add_mul]; omega, hown, hB3⟩
    · obtain rfl : i = n := by omega
      have hnI : ¬ (i : Int) < (i : Int) := by omega
      have htk : X.take i = X := by rw [Hn.out, List.take_length]
      rw [htk, HW.out] at hA
      subst hA
      clear htk
      have HB2 := Lib.hid (HB1.out.trans (hB.mono hB1s))
      clear hB
      go_wp2_with fail
      go_ret
      exact ⟨_, rfl, hown.mono hB1s, HB2.out⟩
end Go.Proofs.YtpibehfmbmincaaGreatDoor
