/- TreeShares' walk. -/
import Derived.Test.YtdhaanaenklleaaDoorQa
namespace Go.Proofs.YtdhaanaenklleaaDoor
set_option linter.unusedVariables false
set_option linter.unusedSimpArgs false
open Go.ChangeShapes Go.WideShapes Go.ChangeAt Go.RowKit

/-- Another store's blocks turn. -/
theorem Hav.other {T X T1 : Nat → Prop} {b nc nb nt : Nat} {fc : List UInt8 → Option Value} {AB : List ByteArray} {AT : List (List Ent)} {w w' : World} (h : Hav T X b fc nc AB AT nb nt w) (hX : ∀ q, T1 q → X q) (hd : ∀ q, T1 q → ¬ T q) (hk : Kp T1 w w') : Hav T X b fc nc AB AT nb nt w' := by
  obtain ⟨hl, hx, fb, ft, h1, h2, h3, h4, h5⟩ := h
  refine ⟨fun q hq => ⟨(hl q hq).1, Nat.lt_of_lt_of_le (hl q hq).2 hk.size⟩, fun q hq => Nat.lt_of_lt_of_le (hx q hq) hk.size, fb, ft, h1.same (fun q hq => hk.block q (hl q hq).2 (fun ht => hd q ht hq)), h2, h3, fun x r hx => ?_, h5⟩
  obtain ⟨a, ha, e, base, r1, r2, r3⟩ := h4 x r hx
  exact ⟨a, ha, e, base, r1, own_same r2 (fun q h5 h6 h7 => hk.block q h6 (fun ht => r3 q (hX q ht) h7)), r3⟩
theorem has_self {AT : List (List Ent)} {AB : List ByteArray} : (∀ s ∈ AB, hasB AB s) ∧ (∀ a ∈ AT, hasT AT a) := ⟨fun s hs => ⟨s, hs, rfl⟩, fun a ha => ⟨a, ha, rfl⟩⟩
theorem hav_new {w w1 : World} {b : Nat} {X : Nat → Prop} (hM : 1 < w.heap.size) (hX : ∀ q, X q → q < w1.heap.size) (h : Sto (fun k => w.heap.size ≤ k ∧ k < w1.heap.size) b (fun _ => none) (fun _ => none) (fun _ => none) 0 0 0 w1) :
    Hav (fun k => w.heap.size ≤ k ∧ k < w1.heap.size) X b (fun _ => none) 0 [] [] 0 0 w1 :=
  ⟨fun q hq => ⟨by omega, hq.2⟩, hX, _, _, h, fun x v h => by (cases h), fun s h => by (cases h), fun x r h => by (cases h), fun a h => by (cases h)⟩
theorem sum_size {a : List Fil} {m : Nat} (h : sumF a ≤ m) : ∀ x ∈ a, x.1.size ≤ m ∧ x.2.1.size ≤ m := fun x hx => by
  have := sumF_mem hx; omega
set_option maxRecDepth 100000 in
set_option maxHeartbeats 8000000 in
theorem shares_walk {W : World} {a b : List Fil} {u v : Value} (hM : MaxAt W) (hK : S.KeysAt W) (ha : Rows W 2 filR u a) (hb : Rows W 2 filR v b) : Calls Tryd.prog 9 #[u, v] W (fun e w' => e = .returned (.bool true) ∧ Below W.heap.size W w') := by
  have HM := Lib.hid hM
  have HK := Lib.hid hK
  have Ha := Lib.hid ha
  have Hb := Lib.hid hb
  have hM1 := hM.1
  clear hM hK ha hb
  go_enter Tryd.func9, Tryd.ntmps9
  go_wp2_with fail
  refine (alive8_any W HK.out HM.out).mono ?_
  rintro e w1 ⟨rfl, hB1⟩
  have HB1 := Lib.hid hB1
  have HGa := Lib.hid (greatF_any u a 40 4096 w1 (Ha.out.below hB1) (by omega) (by omega))
  clear hB1
  go_wp2_with fail
  refine HGa.out.mono ?_
  rintro e w2 ⟨rfl, hB2⟩
  have HB2 := Lib.hid (HB1.out.trans (hB2.mono HB1.out.size))
  clear hB2 HGa HB1
  cases hga : greatF a 40 4096 with
  | true =>
    clear hga
    go_wp2_with fail
    go_ret
    exact ⟨rfl, HB2.out⟩
  | false =>
  obtain ⟨hla, hsa⟩ := greatF_no hga
  have HGb := Lib.hid (greatF_any v b 40 4096 w2 (Hb.out.below HB2.out) (by omega) (by omega))
  clear hga
  go_wp2_with fail
  refine HGb.out.mono ?_
  rintro e w3 ⟨rfl, hB3⟩
  have HB3 := Lib.hid (HB2.out.trans (hB3.mono HB2.out.size))
  clear hB3 HGb HB2
  cases hgb : greatF b 40 4096 with
  | true =>
    clear hgb
    go_wp2_with fail
    go_ret
    exact ⟨rfl, HB3.out⟩
  | false =>
  obtain ⟨hlb, hsb⟩ := greatF_no hgb
  have Hsa := Lib.hid (sum_size hsa)
  have Hsb := Lib.hid (sum_size hsb)
  have HWa := Lib.hid (why_any u a w3 (Ha.out.below HB3.out) (fun x hx => by have := Hsa.out x hx; omega) (by omega))
  clear hgb hsa hsb
  go_wp2_with fail
  refine HWa.out.mono ?_
  rintro e w4 ⟨rfl, hB4⟩
  have HB4 := Lib.hid (HB3.out.trans (hB4.mono HB3.out.size))
  clear hB4 HWa HB3
  by_cases hwa : whyF a = 0
  case neg =>
    have hne : (whyF a != 0) = true := by rw [bne_iff_ne]; exact hwa
    clear hwa
    generalize whyF a = ya at *
    go_wp2_with fail
    go_ret
    exact ⟨rfl, HB4.out⟩
  have Hwa := Lib.hid hwa
  rw [hwa]
  have HWb := Lib.hid (why_any v b w4 (Hb.out.below HB4.out) (fun x hx => by have := Hsb.out x hx; omega) (by omega))
  clear hwa
  go_wp2_with fail
  refine HWb.out.mono ?_
  rintro e w5 ⟨rfl, hB5⟩
  have HB5 := Lib.hid (HB4.out.trans (hB5.mono HB4.out.size))
  clear hB5 HWb HB4
  by_cases hwb : whyF b = 0
  case neg =>
    have hne : (whyF b != 0) = true := by rw [bne_iff_ne]; exact hwb
    clear hwb
    generalize whyF b = yb at *
    go_wp2_with fail
    go_ret
    exact ⟨rfl, HB5.out⟩
  have Hwb := Lib.hid hwb
  rw [hwb]
  clear hwb
  go_wp2_with fail
  refine (new_any w5).mono ?_
  rintro e w6 ⟨b1, rfl, hS1, hB6⟩
  have hs5 := HB5.out.size
  have HH1 := Lib.hid (hav_new (X := fun _ => False) (by omega) (fun q hq => hq.elim) hS1)
  have HB6 := Lib.hid hB6
  clear hS1 hB6
  go_wp2_with fail
  refine (new_any w6).mono ?_
  rintro e w7 ⟨b2, rfl, hS2, hB7⟩
  have hs6 := HB6.out.size
  have HH2 := Lib.hid (hav_new (X := fun k => w5.heap.size ≤ k ∧ k < w6.heap.size) (by omega) (fun q hq => by have := hB7.size; omega) hS2)
  have HH1b := Lib.hid (HH1.out.below0 hB7)
  have HB7 := Lib.hid (HB5.out.trans ((HB6.out.trans (hB7.mono hs6)).mono hs5))
  have hs7 := hB7.size
  clear hS2 hB7 HH1 HB6
  have hTs : ∃ T1 T2 : Nat → Prop, (∀ q, T1 q → W.heap.size ≤ q) ∧ (∀ q, T2 q → W.heap.size ≤ q) ∧ (∀ q, T1 q → ¬ T2 q) ∧ Hav T1 (fun _ => False) b1 (fun _ => none) 0 [] [] 0 0 w7 ∧ Hav T2 T1 b2 (fun _ => none) 0 [] [] 0 0 w7 :=
    ⟨_, _, fun q hq => by have := hq.1; omega, fun q hq => by have := hq.1; omega, fun q hq h2 => by have := hq.2; have := h2.1; omega, HH1b.out, HH2.out⟩
  obtain ⟨T1, T2, hT1, hT2, hTd, hHa, hHb⟩ := hTs
  have HT1 := Lib.hid hT1
  have HT2 := Lib.hid hT2
  have HTd := Lib.hid hTd
  have HH1 := Lib.hid hHa
  clear HH2
  have HH2 := Lib.hid hHb
  have HKx := Lib.hid (fun wx (hx : Below W.heap.size W wx) => (HK.out.below HK.out.1 (hx.mono (by omega)) : S.KeysAt wx))
  have HMx := Lib.hid (fun wx (hx : Below W.heap.size W wx) => HM.out.below hx)
  clear hT1 hT2 hTd hHa hHb HH1b hs5 hs6 hs7
  have hzA : ∀ x ∈ a, x.1.size ≤ 1073741824 := fun x hx => by have := Hsa.out x hx; omega
  have hzB : ∀ x ∈ b, x.1.size ≤ 1073741824 := fun x hx => by have := Hsb.out x hx; omega
  have HzA := Lib.hid hzA
  have HzB := Lib.hid hzB
  have HBu1 := Lib.hid (build_any HH1.out (HKx.out _ HB7.out) (HMx.out _ HB7.out) u a (Ha.out.below HB7.out) (by omega) hzA (fun _ x hx => (Hsa.out x hx).2) (by omega) (by omega))
  clear hzA hzB
  go_wp2_with fail
  refine HBu1.out.mono ?_
  rintro e w8 (⟨h, _⟩ | ⟨_, l1, hp1, hs1, ha1, rfl, nb1, nt1, hH8, hG8, hK8⟩)
  · exact absurd Hwa.out h
  have Hp1 := Lib.hid hp1
  have Hs1 := Lib.hid hs1
  have Ha1 := Lib.hid ha1
  have hl1 := hp1.length_eq
  have htl1 := bldt_len (n := 80) (low_top hs1 ha1)
  have hbn := hG8.lb
  have htn := hG8.lt
  have hdl : (datF l1).length = a.length := by unfold datF; rw [List.length_map, hl1]
  have hnb1 : nb1 ≤ 40 := by omega
  have hnt1 : nt1 ≤ 641 := by omega
  have HH1c := Lib.hid hH8
  have HH2c := Lib.hid (HH2.out.other (fun q hq => hq) HTd.out hK8)
  have HTl := Lib.hid (show ∀ q, T1 q → q < w8.heap.size from fun q hq => (hH8.lt q hq).2)
  have HTm := Lib.hid (show ∀ q, T2 q → q < w8.heap.size from fun q hq => (HH2c.out.lt q hq).2)
  have HB8 := Lib.hid (HB7.out.trans (hK8.below HT1.out HB7.out.size))
  obtain ⟨idv, hidv⟩ : ∃ y, y = tid (treeB (bldE 80 nilB l1)) := ⟨_, rfl⟩
  rw [← hidv]
  have Hil := Lib.hid (show idv.length = 32 by rw [hidv]; exact tid_len _)
  have Hidv := Lib.hid hidv
  have Hz := Lib.hid (id_size Hil.out)
  have Hone := Lib.hid (id_one idv)
  have Hs32 := Lib.hid (show (bytV idv).toArray.size = 32 by rw [List.size_toArray, bytV_len, Hil.out])
  clear hp1 hs1 ha1 hl1 htl1 hbn htn hdl hH8 hG8 hK8 hidv HH1 HH2 HBu1
  go_upto_region 7 with (first | (refine wpList_store_rowTo rfl 37 (.tmp 7) (.tmp 38) rfl rfl w8.heap.size (bytV idv).toArray rfl rfl 37 _ (heap_alloc_new w8 _) Hz.out (by rw [Hs32.out]; rfl) Hone.out ?_))
  have hBx := below_setRow ((Below.refl w8.heap.size w8).alloc (Nat.le_refl _) (.cells #[.int .u8 0, .int .u8 0, .int .u8 0, .int .u8 0, .int .u8 0, .int .u8 0, .int .u8 0, .int .u8 0, .int .u8 0, .int .u8 0, .int .u8 0, .int .u8 0, .int .u8 0, .int .u8 0, .int .u8 0, .int .u8 0, .int .u8 0, .int .u8 0, .int .u8 0, .int .u8 0, .int .u8 0, .int .u8 0, .int .u8 0, .int .u8 0, .int .u8 0, .int .u8 0, .int .u8 0, .int .u8 0, .int .u8 0, .int .u8 0, .int .u8 0, .int .u8 0] 37)) (g := w8.heap.size) (Nat.le_refl _) (bytV idv).toArray
  have hGx := setRow_heap (w8.alloc (.cells #[.int .u8 0, .int .u8 0, .int .u8 0, .int .u8 0, .int .u8 0, .int .u8 0, .int .u8 0, .int .u8 0, .int .u8 0, .int .u8 0, .int .u8 0, .int .u8 0, .int .u8 0, .int .u8 0, .int .u8 0, .int .u8 0, .int .u8 0, .int .u8 0, .int .u8 0, .int .u8 0, .int .u8 0, .int .u8 0, .int .u8 0, .int .u8 0, .int .u8 0, .int .u8 0, .int .u8 0, .int .u8 0, .int .u8 0, .int .u8 0, .int .u8 0, .int .u8 0] 37)) w8.heap.size _ (bytV idv).toArray 37 (0, 0) (heap_alloc_new w8 _)
  generalize (w8.alloc (.cells #[.int .u8 0, .int .u8 0, .int .u8 0, .int .u8 0, .int .u8 0, .int .u8 0, .int .u8 0, .int .u8 0, .int .u8 0, .int .u8 0, .int .u8 0, .int .u8 0, .int .u8 0, .int .u8 0, .int .u8 0, .int .u8 0, .int .u8 0, .int .u8 0, .int .u8 0, .int .u8 0, .int .u8 0, .int .u8 0, .int .u8 0, .int .u8 0, .int .u8 0, .int .u8 0, .int .u8 0, .int .u8 0, .int .u8 0, .int .u8 0, .int .u8 0, .int .u8 0] 37)).setRow w8.heap.size (bytV idv).toArray = w9 at *
  have HG9 := Lib.hid hGx
  have HH1d := Lib.hid (HH1c.out.below0 hBx)
  have HH2d := Lib.hid (HH2c.out.below0 hBx)
  have HB9 := Lib.hid (HB8.out.trans (hBx.mono HB8.out.size))
  have HSz1 := Lib.hid (show Calls Tryd.prog 39 #[.pointer (some ⟨b1, 0, none⟩)] w9 (fun e w' => e = .returned (.int .i64 ((nb1 + nt1 + 0 : Nat) : Int)) ∧ Below w9.heap.size w9 w') from by
    obtain ⟨-, -, fb, ft, hS, -⟩ := HH1d.out
    exact size_any hS (by omega) (by omega) (by omega))
  obtain ⟨sz, hsz⟩ : ∃ sz, sz = nb1 + nt1 + 0 := ⟨_, rfl⟩
  rw [← hsz] at HSz1
  have Hsz := Lib.hid hsz
  clear hBx hGx HH1c HH2c hsz
  go_wp2_with fail
  refine HSz1.out.mono ?_
  rintro e w10 ⟨rfl, hB10⟩
  have HH1e := Lib.hid (HH1d.out.below0 hB10)
  have HH2e := Lib.hid (HH2d.out.below0 hB10)
  have HG10 := Lib.hid ((hB10.block _ (lt_of_block HG9.out)).trans HG9.out)
  have HB10 := Lib.hid (HB9.out.trans (hB10.mono HB9.out.size))
  have HBu2 := Lib.hid (build_any HH1e.out (HKx.out _ HB10.out) (HMx.out _ HB10.out) u a (Ha.out.below HB10.out) (by omega) HzA.out (fun _ x hx => (Hsa.out x hx).2) (by omega) (by omega))
  clear hB10 HH1d HH2d HSz1 HG9
  go_wp2_with fail
  refine HBu2.out.mono ?_
  rintro e w11 (⟨h, _⟩ | ⟨_, l2, hp2, hs2, ha2, rfl, nb2, nt2, hH11, hG11, hK11⟩)
  · exact absurd Hwa.out h
  obtain rfl : l1 = l2 := sorted_one (Hp1.out.trans hp2.symm) Ha1.out Hs1.out hs2
  rw [← Hidv.out]
  have hnb2 : nb2 = nb1 := hG11.b (fun s hs => ⟨s, by simpa using hs, rfl⟩)
  have hnt2 : nt2 = nt1 := hG11.t (fun s hs => ⟨s, by simpa using hs, rfl⟩)
  subst hnb2; subst hnt2
  have HH1f := Lib.hid hH11
  have HH2f := Lib.hid (HH2e.out.other (fun q hq => hq) HTd.out hK11)
  have HB11 := Lib.hid (HB10.out.trans (hK11.below HT1.out HB10.out.size))
  have HG11 := Lib.hid ((hK11.block _ (lt_of_block HG10.out) (fun hq => by have := HTl.out _ hq; omega)).trans HG10.out)
  have hz11 : w8.heap.size < w11.heap.size := lt_of_block HG11.out
  clear hp2 hs2 ha2 hH11 hG11 hK11 HH1e HH2e HBu2 HG10
  go_upto_region 9 with (first | (refine wpList_store_rowTo rfl 37 (.tmp 10) (.tmp 46) rfl rfl w11.heap.size (bytV idv).toArray rfl rfl 37 _ (heap_alloc_new w11 _) Hz.out (by rw [Hs32.out]; rfl) Hone.out ?_))
  have hBx := below_setRow ((Below.refl w11.heap.size w11).alloc (Nat.le_refl _) (.cells #[.int .u8 0, .int .u8 0, .int .u8 0, .int .u8 0, .int .u8 0, .int .u8 0, .int .u8 0, .int .u8 0, .int .u8 0, .int .u8 0, .int .u8 0, .int .u8 0, .int .u8 0, .int .u8 0, .int .u8 0, .int .u8 0, .int .u8 0, .int .u8 0, .int .u8 0, .int .u8 0, .int .u8 0, .int .u8 0, .int .u8 0, .int .u8 0, .int .u8 0, .int .u8 0, .int .u8 0, .int .u8 0, .int .u8 0, .int .u8 0, .int .u8 0, .int .u8 0] 37)) (g := w11.heap.size) (Nat.le_refl _) (bytV idv).toArray
  have hGx := setRow_heap (w11.alloc (.cells #[.int .u8 0, .int .u8 0, .int .u8 0, .int .u8 0, .int .u8 0, .int .u8 0, .int .u8 0, .int .u8 0, .int .u8 0, .int .u8 0, .int .u8 0, .int .u8 0, .int .u8 0, .int .u8 0, .int .u8 0, .int .u8 0, .int .u8 0, .int .u8 0, .int .u8 0, .int .u8 0, .int .u8 0, .int .u8 0, .int .u8 0, .int .u8 0, .int .u8 0, .int .u8 0, .int .u8 0, .int .u8 0, .int .u8 0, .int .u8 0, .int .u8 0, .int .u8 0] 37)) w11.heap.size _ (bytV idv).toArray 37 (0, 0) (heap_alloc_new w11 _)
  generalize (w11.alloc (.cells #[.int .u8 0, .int .u8 0, .int .u8 0, .int .u8 0, .int .u8 0, .int .u8 0, .int .u8 0, .int .u8 0, .int .u8 0, .int .u8 0, .int .u8 0, .int .u8 0, .int .u8 0, .int .u8 0, .int .u8 0, .int .u8 0, .int .u8 0, .int .u8 0, .int .u8 0, .int .u8 0, .int .u8 0, .int .u8 0, .int .u8 0, .int .u8 0, .int .u8 0, .int .u8 0, .int .u8 0, .int .u8 0, .int .u8 0, .int .u8 0, .int .u8 0, .int .u8 0] 37)).setRow w11.heap.size (bytV idv).toArray = w12 at *
  have HG12b := Lib.hid hGx
  have HG12 := Lib.hid ((hBx.block _ (lt_of_block HG11.out)).trans HG11.out)
  have HH1g := Lib.hid (HH1f.out.below0 hBx)
  have HH2g := Lib.hid (HH2f.out.below0 hBx)
  have HB12 := Lib.hid (HB11.out.trans (hBx.mono HB11.out.size))
  have HSz2 := Lib.hid (show Calls Tryd.prog 39 #[.pointer (some ⟨b1, 0, none⟩)] w12 (fun e w' => e = .returned (.int .i64 ((nb2 + nt2 + 0 : Nat) : Int)) ∧ Below w12.heap.size w12 w') from by
    obtain ⟨-, -, fb, ft, hS, -⟩ := HH1g.out
    exact size_any hS (by omega) (by omega) (by omega))
  rw [← Hsz.out] at HSz2
  have heq := fun v1 => eq_id (a := idv) (b := idv) Hil.out Hil.out v1
  rw [decide_eq_true (rfl : idv = idv)] at heq
  clear hBx hGx HH1f HH2f HG11 hz11
  go_wp2_with (first | (refine wpList_load_row_g8 rfl 37 (.tmp 7) rfl w8.heap.size rfl 37 (bytV idv).toArray (0, 0) HG12.out Tryd.underlying37 Hz.out ?_) | (refine wpList_load_row_g8 rfl 37 (.tmp 10) rfl w11.heap.size rfl 37 (bytV idv).toArray (0, 0) HG12b.out Tryd.underlying37 Hz.out ?_))
  refine HSz2.out.mono ?_
  rintro e w13 ⟨rfl, hB13⟩
  have HH2h := Lib.hid (HH2g.out.below0 hB13)
  have HG13 := Lib.hid ((hB13.block _ (lt_of_block HG12.out)).trans HG12.out)
  have HB13 := Lib.hid (HB12.out.trans (hB13.mono HB12.out.size))
  have HBu3 := Lib.hid (build_any HH2h.out (HKx.out _ HB13.out) (HMx.out _ HB13.out) v b (Hb.out.below HB13.out) (by omega) HzB.out (fun _ x hx => (Hsb.out x hx).2) (by omega) (by omega))
  clear hB13 HH1g HH2g HSz2 HG12 HG12b
  go_wp2_with fail
  refine HBu3.out.mono ?_
  rintro e w14 (⟨h, _⟩ | ⟨_, l3, hp3, hs3, ha3, rfl, nb3, nt3, hH14, hG14, hK14⟩)
  · exact absurd Hwb.out h
  have hl3 := hp3.length_eq
  have htl3 := bldt_len (n := 80) (low_top hs3 ha3)
  have hbn := hG14.lb
  have htn := hG14.lt
  have hdl : (datF l3).length = b.length := by unfold datF; rw [List.length_map, hl3]
  have hnb3 : nb3 ≤ 40 := by omega
  have hnt3 : nt3 ≤ 641 := by omega
  have HH2i := Lib.hid hH14
  have HB14 := Lib.hid (HB13.out.trans (hK14.below HT2.out HB13.out.size))
  have HG14 := Lib.hid ((hK14.block _ (lt_of_block HG13.out) (fun hq => by have := HTm.out _ hq; omega)).trans HG13.out)
  obtain ⟨idv3, hidv3⟩ : ∃ y, y = tid (treeB (bldE 80 nilB l3)) := ⟨_, rfl⟩
  rw [← hidv3]
  have HBu4 := Lib.hid (build_any HH2i.out (HKx.out _ HB14.out) (HMx.out _ HB14.out) u a (Ha.out.below HB14.out) (by omega) HzA.out (fun _ x hx => (Hsa.out x hx).2) (by omega) (by omega))
  clear hp3 hs3 ha3 hl3 htl3 hbn htn hdl hH14 hG14 hK14 HH2h HG13 HBu3 hidv3
  go_wp2_with fail
  refine HBu4.out.mono ?_
  rintro e w15 (⟨h, _⟩ | ⟨_, l4, hp4, hs4, ha4, rfl, nb4, nt4, hH15, hG15, hK15⟩)
  · exact absurd Hwa.out h
  obtain rfl : l1 = l4 := sorted_one (Hp1.out.trans hp4.symm) Ha1.out Hs1.out hs4
  rw [← Hidv.out]
  have HB15 := Lib.hid (HB14.out.trans (hK15.below HT2.out HB14.out.size))
  have HG15 := Lib.hid ((hK15.block _ (lt_of_block HG14.out) (fun hq => by have := HTm.out _ hq; omega)).trans HG14.out)
  clear hp4 hs4 ha4 hH15 hG15 hK15 HH2i HG14 HBu4
  go_upto_region 13 with (first | (refine wpList_store_rowTo rfl 37 (.tmp 12) (.tmp 72) rfl rfl w15.heap.size (bytV idv).toArray rfl rfl 37 _ (heap_alloc_new w15 _) Hz.out (by rw [Hs32.out]; rfl) Hone.out ?_))
  have hBx := below_setRow ((Below.refl w15.heap.size w15).alloc (Nat.le_refl _) (.cells #[.int .u8 0, .int .u8 0, .int .u8 0, .int .u8 0, .int .u8 0, .int .u8 0, .int .u8 0, .int .u8 0, .int .u8 0, .int .u8 0, .int .u8 0, .int .u8 0, .int .u8 0, .int .u8 0, .int .u8 0, .int .u8 0, .int .u8 0, .int .u8 0, .int .u8 0, .int .u8 0, .int .u8 0, .int .u8 0, .int .u8 0, .int .u8 0, .int .u8 0, .int .u8 0, .int .u8 0, .int .u8 0, .int .u8 0, .int .u8 0, .int .u8 0, .int .u8 0] 37)) (g := w15.heap.size) (Nat.le_refl _) (bytV idv).toArray
  have hGx := setRow_heap (w15.alloc (.cells #[.int .u8 0, .int .u8 0, .int .u8 0, .int .u8 0, .int .u8 0, .int .u8 0, .int .u8 0, .int .u8 0, .int .u8 0, .int .u8 0, .int .u8 0, .int .u8 0, .int .u8 0, .int .u8 0, .int .u8 0, .int .u8 0, .int .u8 0, .int .u8 0, .int .u8 0, .int .u8 0, .int .u8 0, .int .u8 0, .int .u8 0, .int .u8 0, .int .u8 0, .int .u8 0, .int .u8 0, .int .u8 0, .int .u8 0, .int .u8 0, .int .u8 0, .int .u8 0] 37)) w15.heap.size _ (bytV idv).toArray 37 (0, 0) (heap_alloc_new w15 _)
  generalize (w15.alloc (.cells #[.int .u8 0, .int .u8 0, .int .u8 0, .int .u8 0, .int .u8 0, .int .u8 0, .int .u8 0, .int .u8 0, .int .u8 0, .int .u8 0, .int .u8 0, .int .u8 0, .int .u8 0, .int .u8 0, .int .u8 0, .int .u8 0, .int .u8 0, .int .u8 0, .int .u8 0, .int .u8 0, .int .u8 0, .int .u8 0, .int .u8 0, .int .u8 0, .int .u8 0, .int .u8 0, .int .u8 0, .int .u8 0, .int .u8 0, .int .u8 0, .int .u8 0, .int .u8 0] 37)).setRow w15.heap.size (bytV idv).toArray = w16 at *
  have HG16b := Lib.hid hGx
  have HG16 := Lib.hid ((hBx.block _ (lt_of_block HG15.out)).trans HG15.out)
  have HB16 := Lib.hid (HB15.out.trans (hBx.mono HB15.out.size))
  clear hBx hGx HG15
  go_wp2_with (first | (refine wpList_load_row_g8 rfl 37 (.tmp 12) rfl w15.heap.size rfl 37 (bytV idv).toArray (0, 0) HG16b.out Tryd.underlying37 Hz.out ?_) | (refine wpList_load_row_g8 rfl 37 (.tmp 7) rfl w8.heap.size rfl 37 (bytV idv).toArray (0, 0) HG16.out Tryd.underlying37 Hz.out ?_))
  go_ret
  exact ⟨rfl, HB16.out⟩
end Go.Proofs.YtdhaanaenklleaaDoor
