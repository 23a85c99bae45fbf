/- TreeApart's walk. -/
import Derived.Test.YtdhaanaenklleaaGreatDoorXVZ
namespace Go.Proofs.YtdhaanaenklleaaGreatDoor
set_option linter.unusedVariables false
set_option linter.unusedSimpArgs false
open Go.ChangeShapes Go.WideShapes Go.ChangeAt Go.RowKit

set_option maxRecDepth 100000 in
set_option maxHeartbeats 4000000 in
/-- A tree that isn't there. -/
theorem tree24_none {b : Nat} {look : List UInt8 → Option (List Ent)} {w : World} (hL : Lk w.heap.size b look w) (id : List UInt8) (hid : id.length = 32) (hn : look id = none) :
    Calls Tryz.prog 24 #[.pointer (some ⟨b, 0, none⟩), .agg (bytV id).toArray] w fun e w' => e = .returned (.tuple #[.slice none 0 0, .int .i64 5]) ∧ Below w.heap.size w w' := by
  have hB0 := (Below.refl w.heap.size w).alloc (Nat.le_refl _) (.cells (bytV id).toArray 32)
  have HG0 := Lib.hid (heap_alloc_new w (.cells (bytV id).toArray 32))
  have HL := Lib.hid (hL.below hB0)
  have HB := Lib.hid hB0
  have Hz := Lib.hid (id_size hid)
  have hbl : (bytV id).length = 32 := by rw [bytV_len, hid]
  have HidL := Lib.hid hid
  have Hno := Lib.hid hn
  clear hL hB0 hid hn
  go_enter Tryz.func24, Tryz.ntmps24
  go_upto_region 3 with fail
  generalize w.alloc (.cells (bytV id).toArray 32) = w1 at *
  obtain ⟨m1, m2, m3, ft, nt, hb, hm2, hbg, hmg, hft⟩ := HL.out.f
  have HLb := Lib.hid (fun w' (hB : Below w1.heap.size w1 w') => show (loadVar 78 ⟨b, 1, none⟩).run Tryz.prog w' = .ok (.map (some m2)) w' from by
    have h := block_cell ((hB.block b (lt_of_block hb)).trans hb) 1
    simp [go_sem, h])
  have HGr := Lib.hid (fun wx (hx : Below w1.heap.size w1 wx) => (hx.block _ (lt_of_block HG0.out)).trans HG0.out)
  have hfti := hft id
  rw [Hno.out] at hfti
  have HLk := Lib.hid (fun w' (hB : Below w1.heap.size w1 w') => show (Instr.lookup 78 (.map (some m2)) (.agg (bytV id).toArray) true).run Tryz.prog w' = .ok (.tuple #[.slice none 0 0, .bool false]) w' from by
    have h := (hm2.of_block (hB.block _ hm2.lt)).look keyed37 Tryz.underlying78 (z := .slice none 0 0) (zero22 w') strKeys (key37 id HidL.out)
    rw [show ft id = none from hfti] at h
    exact h)
  clear hft hb hm2 hfti
  refine wp_region_class (Below w1.heap.size w1) (by kernel_rfl) (by kernel_rfl) (Below.refl _ _).drew ?_
  repeat (go_big_quiet_step (first | (intro _; rfl)))
  refine wpQuiet_load_at rfl 78 (.tmp 13) rfl ⟨b, 1, none⟩ rfl (.map (some m2)) HLb.out ?_
  simp only [Act.put, List.setIfInBounds_toArray, List.set_cons_succ, List.set_cons_zero]
  refine S.wpQuiet_load_row rfl 32 (.tmp 3) rfl w.heap.size rfl 32 (bytV id).toArray (0, 0) _ HGr.out Tryz.underlying32 rfl Hz.out ?_
  simp only [Act.put, List.setIfInBounds_toArray, List.set_cons_succ, List.set_cons_zero]
  refine wpQuiet_run rfl (.tmp 14) (.tmp 15) 78 rfl (.map (some m2)) (.agg (bytV id).toArray) _ rfl rfl HLk.out ?_
  simp only [Act.put, List.setIfInBounds_toArray, List.set_cons_succ, List.set_cons_zero]
  repeat (go_big_quiet_step (first | (intro _; rfl)))
  refine wpQuiet_nil ?_
  intro w2 hB2
  have HB2 := Lib.hid (HB.out.trans (hB2.mono HB.out.size))
  clear hB2
  go_wp2_with fail
  go_ret2
  exact ⟨rfl, HB2.out⟩
set_option maxRecDepth 100000 in
set_option maxHeartbeats 8000000 in
theorem apart_walk {W : World} {a : List Fil} {u : Value} (hM : MaxAt W) (hK : S.KeysAt W) (ha : Rows W 2 filR u a) : Calls Tryz.prog 6 #[u] W (fun e w' => e = .returned (.bool true) ∧ Below W.heap.size W w') := by
  have HM := Lib.hid hM
  have HK := Lib.hid hK
  have Ha := Lib.hid ha
  have hM1 := hM.1
  clear hM hK ha
  go_enter Tryz.func6, Tryz.ntmps6
  go_wp2_with fail
  refine (alive8_any W HK.out HM.out).mono ?_
  rintro e w1 ⟨rfl, hB1⟩
  have HB1 := Lib.hid hB1
  have HGa := Lib.hid (greatF_any u a 40 4096 w1 (Ha.out.below hB1) (by omega) (by omega))
  clear hB1
  go_wp2_with fail
  refine HGa.out.mono ?_
  rintro e w2 ⟨rfl, hB2⟩
  have HB2 := Lib.hid (HB1.out.trans (hB2.mono HB1.out.size))
  clear hB2 HGa HB1
  cases hga : greatF a 40 4096 with
  | true =>
    clear hga
    go_wp2_with fail
    go_ret
    exact ⟨rfl, HB2.out⟩
  | false =>
  obtain ⟨hla, hsa⟩ := greatF_no hga
  have Hsa := Lib.hid (sum_size hsa)
  have HWa := Lib.hid (why_any u a w2 (Ha.out.below HB2.out) (fun x hx => by have := Hsa.out x hx; omega) (by omega))
  clear hga hsa
  go_wp2_with fail
  refine HWa.out.mono ?_
  rintro e w4 ⟨rfl, hB4⟩
  have HB4 := Lib.hid (HB2.out.trans (hB4.mono HB2.out.size))
  clear hB4 HWa HB2
  by_cases hwa : whyF a = 0
  case neg =>
    have hne : (whyF a != 0) = true := by rw [bne_iff_ne]; exact hwa
    clear hwa
    generalize whyF a = ya at *
    go_wp2_with fail
    go_ret
    exact ⟨rfl, HB4.out⟩
  have Hwa := Lib.hid hwa
  rw [hwa]
  clear hwa
  go_wp2_with fail
  refine (new_any w4).mono ?_
  rintro e w6 ⟨b1, rfl, hS1, hB6⟩
  have hs5 := HB4.out.size
  have HH1 := Lib.hid (hav_new (X := fun _ => False) (by omega) (fun q hq => hq.elim) hS1)
  have HB6 := Lib.hid hB6
  clear hS1 hB6
  go_wp2_with fail
  refine (new_any w6).mono ?_
  rintro e w7 ⟨b2, rfl, hS2, hB7⟩
  have hs6 := HB6.out.size
  have HH2 := Lib.hid (hav_new (X := fun k => w4.heap.size ≤ k ∧ k < w6.heap.size) (by omega) (fun q hq => by have := hB7.size; omega) hS2)
  have HH1b := Lib.hid (HH1.out.below0 hB7)
  have HB7 := Lib.hid (HB4.out.trans ((HB6.out.trans (hB7.mono hs6)).mono hs5))
  have hs7 := hB7.size
  clear hS2 hB7 HH1 HB6
  have hTs : ∃ T1 T2 : Nat → Prop, (∀ q, T1 q → W.heap.size ≤ q) ∧ (∀ q, T1 q → ¬ T2 q) ∧ Hav T1 (fun _ => False) b1 (fun _ => none) 0 [] [] 0 0 w7 ∧ Hav T2 T1 b2 (fun _ => none) 0 [] [] 0 0 w7 :=
    ⟨_, _, fun q hq => by have := hq.1; omega, fun q hq h2 => by have := hq.2; have := h2.1; omega, HH1b.out, HH2.out⟩
  obtain ⟨T1, T2, hT1, hTd, hHa, hHb⟩ := hTs
  have HT1 := Lib.hid hT1
  have HTd := Lib.hid hTd
  have HH1 := Lib.hid hHa
  clear HH2
  have HH2 := Lib.hid hHb
  have HKx := Lib.hid (HK.out.below HK.out.1 (HB7.out.mono (by omega)) : S.KeysAt w7)
  have HMx := Lib.hid (HM.out.below HB7.out)
  have hzA : ∀ x ∈ a, x.1.size ≤ 1073741824 := fun x hx => by have := Hsa.out x hx; omega
  have HBu1 := Lib.hid (build_any HH1.out HKx.out HMx.out u a (Ha.out.below HB7.out) (by omega) hzA (fun _ x hx => (Hsa.out x hx).2) (by omega) (by omega))
  clear hT1 hTd hHa hHb HH1b hs5 hs6 hs7 hzA
  go_wp2_with fail
  refine HBu1.out.mono ?_
  rintro e w8 (⟨h, _⟩ | ⟨_, l1, hp1, hs1, ha1, rfl, nb1, nt1, hH8, hG8, hK8⟩)
  · exact absurd Hwa.out h
  have HH2c := Lib.hid (HH2.out.other (fun q hq => hq) HTd.out hK8)
  have HB8 := Lib.hid (HB7.out.trans (hK8.below HT1.out HB7.out.size))
  obtain ⟨idv, hidv⟩ : ∃ y, y = tid (treeB (bldE 80 nilB l1)) := ⟨_, rfl⟩
  rw [← hidv]
  have Hil := Lib.hid (show idv.length = 32 by rw [hidv]; exact tid_len _)
  have Hz := Lib.hid (id_size Hil.out)
  have Hone := Lib.hid (id_one idv)
  have Hs32 := Lib.hid (show (bytV idv).toArray.size = 32 by rw [List.size_toArray, bytV_len, Hil.out])
  clear hp1 hs1 ha1 hH8 hG8 hK8 hidv HH1 HH2 HBu1
  go_upto_region 7 with (first | (refine wpList_store_rowTo rfl 32 (.tmp 5) (.tmp 26) rfl rfl w8.heap.size (bytV idv).toArray rfl rfl 32 _ (heap_alloc_new w8 _) Hz.out (by rw [Hs32.out]; rfl) Hone.out ?_))
  have hBx := below_setRow ((Below.refl w8.heap.size w8).alloc (Nat.le_refl _) (.cells #[.int .u8 0, .int .u8 0, .int .u8 0, .int .u8 0, .int .u8 0, .int .u8 0, .int .u8 0, .int .u8 0, .int .u8 0, .int .u8 0, .int .u8 0, .int .u8 0, .int .u8 0, .int .u8 0, .int .u8 0, .int .u8 0, .int .u8 0, .int .u8 0, .int .u8 0, .int .u8 0, .int .u8 0, .int .u8 0, .int .u8 0, .int .u8 0, .int .u8 0, .int .u8 0, .int .u8 0, .int .u8 0, .int .u8 0, .int .u8 0, .int .u8 0, .int .u8 0] 32)) (g := w8.heap.size) (Nat.le_refl _) (bytV idv).toArray
  have hGx := setRow_heap (w8.alloc (.cells #[.int .u8 0, .int .u8 0, .int .u8 0, .int .u8 0, .int .u8 0, .int .u8 0, .int .u8 0, .int .u8 0, .int .u8 0, .int .u8 0, .int .u8 0, .int .u8 0, .int .u8 0, .int .u8 0, .int .u8 0, .int .u8 0, .int .u8 0, .int .u8 0, .int .u8 0, .int .u8 0, .int .u8 0, .int .u8 0, .int .u8 0, .int .u8 0, .int .u8 0, .int .u8 0, .int .u8 0, .int .u8 0, .int .u8 0, .int .u8 0, .int .u8 0, .int .u8 0] 32)) w8.heap.size _ (bytV idv).toArray 32 (0, 0) (heap_alloc_new w8 _)
  generalize (w8.alloc (.cells #[.int .u8 0, .int .u8 0, .int .u8 0, .int .u8 0, .int .u8 0, .int .u8 0, .int .u8 0, .int .u8 0, .int .u8 0, .int .u8 0, .int .u8 0, .int .u8 0, .int .u8 0, .int .u8 0, .int .u8 0, .int .u8 0, .int .u8 0, .int .u8 0, .int .u8 0, .int .u8 0, .int .u8 0, .int .u8 0, .int .u8 0, .int .u8 0, .int .u8 0, .int .u8 0, .int .u8 0, .int .u8 0, .int .u8 0, .int .u8 0, .int .u8 0, .int .u8 0] 32)).setRow w8.heap.size (bytV idv).toArray = w9 at *
  have HG9 := Lib.hid hGx
  have HH2d := Lib.hid (HH2c.out.below0 hBx)
  have HB9 := Lib.hid (HB8.out.trans (hBx.mono HB8.out.size))
  obtain ⟨look, hLk, hlk1, -⟩ := HH2d.out.look (fun a ha => by cases ha)
  have hno : ∀ x, look x = none := fun x => by
    cases hc : look x with
    | none => rfl
    | some a => have := (hlk1 x a hc).1; cases this
  have hfl : thr look 16 idv nilB 0 [] = (5, 0, []) := by unfold thr; rw [hno]
  have hF := files59_any hLk idv Hil.out
  rw [hfl] at hF
  have HF := Lib.hid hF
  have HLk := Lib.hid hLk
  have Hno := Lib.hid (hno idv)
  clear hBx hGx HH2c hLk hlk1 hno hfl hF
  go_wp2_with (first | (refine wpList_load_row rfl 32 (.tmp 5) rfl w8.heap.size rfl 32 (bytV idv).toArray (0, 0) _ HG9.out Tryz.underlying32 rfl Hz.out ?_))
  refine HF.out.mono ?_
  rintro e w10 ⟨v, rfl, hv, -, hB10⟩
  obtain rfl : v = .slice none 0 0 := hv (by decide)
  have HG10 := Lib.hid ((hB10.block _ (lt_of_block HG9.out)).trans HG9.out)
  have HB10 := Lib.hid (HB9.out.trans (hB10.mono HB9.out.size))
  have HH2e := Lib.hid (HH2d.out.below0 hB10)
  have HT := Lib.hid (tree24_none ((HLk.out.below hB10).mono hB10.size) idv Hil.out Hno.out)
  clear hv hB10 HG9 HH2d HLk HF
  go_wp2_with (first | (refine wpList_load_row rfl 32 (.tmp 5) rfl w8.heap.size rfl 32 (bytV idv).toArray (0, 0) _ HG10.out Tryz.underlying32 rfl Hz.out ?_))
  refine HT.out.mono ?_
  rintro e w11 ⟨rfl, hB11⟩
  have HB11 := Lib.hid (HB10.out.trans (hB11.mono HB10.out.size))
  have HSz := Lib.hid (show Calls Tryz.prog 25 #[.pointer (some ⟨b2, 0, none⟩)] w11 (fun e w' => e = .returned (.int .i64 ((0 + 0 + 0 : Nat) : Int)) ∧ Below w11.heap.size w11 w') from by
    obtain ⟨-, -, fb, ft, hS, -⟩ := HH2e.out.below0 hB11
    exact size_any hS (by omega) (by omega) (by omega))
  clear hB11 HH2e HT HG10
  go_wp2_with fail
  refine HSz.out.mono ?_
  rintro e w12 ⟨rfl, hB12⟩
  have HB12 := Lib.hid (HB11.out.trans (hB12.mono HB11.out.size))
  clear hB12 HSz
  go_wp2_with fail
  go_ret
  exact ⟨rfl, HB12.out⟩
end Go.Proofs.YtdhaanaenklleaaGreatDoor
