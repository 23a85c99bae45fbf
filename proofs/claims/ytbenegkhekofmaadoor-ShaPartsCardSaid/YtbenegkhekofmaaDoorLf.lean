/- Walks: the statement ShaParts, where both are alike. -/
import Derived.Test.YtbenegkhekofmaaDoorLe
namespace Go.Proofs.YtbenegkhekofmaaDoor
set_option linter.unusedVariables false
set_option linter.unusedSimpArgs false
open Go.ChangeShapes Go.WideShapes Go.ChangeAt Go.RowKit

set_option maxRecDepth 100000 in
set_option maxHeartbeats 2000000 in
theorem parts_like (p q : ByteArray) (v u : Value) (a b : List ByteArray) (w : World) (hpq : p.size + q.size ≤ 1024) (hv : Strs w v a) (hu : Strs w u b) (hza : ∀ s ∈ a, s.size ≤ 140737488351232) (hzb : ∀ s ∈ b, s.size ≤ 140737488351232) (hK : KeysAt w)
    (hga : isGreat a = false) (hgb : isGreat b = false) (hcase : p = q ∧ a = b) : Calls Tryd.prog 6 #[.string p, v, .string q, u] w (LawEnd w) := by
  obtain ⟨hta, hla⟩ := not_great hga
  obtain ⟨htb, hlb⟩ := not_great hgb
  have HA := Lib.hid (alive_any w hK)
  have HG1 := Lib.hid (fun w1 (hB : Below w.heap.size w w1) => great_any v a w1 (hv.below hB) hza)
  have HG2 := Lib.hid (fun w1 (hB : Below w.heap.size w w1) => great_any u b w1 (hu.below hB) hzb)
  rw [hga] at HG1
  rw [hgb] at HG2
  have hta' : total (p :: a) ≤ 9216 := by simp [total]; omega
  have htb' : total (q :: b) ≤ 9216 := by simp [total]; omega
  have hjx := joinB_size (p :: a)
  have hjy := joinB_size (q :: b)
  simp only [List.length_cons] at hjx hjy
  have HV1 := Lib.hid (fun w1 (hB : Below w.heap.size w w1) => hv.below hB)
  have HV2 := Lib.hid (fun w1 (hB : Below w.heap.size w w1) => hu.below hB)
  have HJ1 := Lib.hid (fun u w1 (hu : Strs w1 u (p :: a)) => refJoin_any u (p :: a) w1 hu (by omega) (by simp; omega))
  have HJ2 := Lib.hid (fun v w1 (hv : Strs w1 v (q :: b)) => refJoin_any v (q :: b) w1 hv (by omega) (by simp; omega))
  have HSm := Lib.hid (fun w1 (hB : Below w.heap.size w w1) => same_any v u a b w1 (hv.below hB) (hu.below hB) (by omega) (by omega))
  have HS1' := Lib.hid (fun w1 (hB : Below w.heap.size w w1) => sum_any p v a w1 (hK.below hK.1 hB) (hv.below hB) (by omega) (by omega))
  have HS2' := Lib.hid (fun w1 (hB : Below w.heap.size w w1) => sum_any q u b w1 (hK.below hK.1 hB) (hu.below hB) (by omega) (by omega))
  have HCX := Lib.hid (fun w1 => conv_bytes (joinB (p :: a)) w1 (by omega))
  have HCY := Lib.hid (fun w1 => conv_bytes (joinB (q :: b)) w1 (by omega))
  have HDX := Lib.hid (fun v w1 (hv : BytsN w1 v (bytesL (joinB (p :: a)))) => dof_any v _ w1 hv (bytesL_small _) (by rw [bytesL_len]; omega))
  have HDY := Lib.hid (fun v w1 (hv : BytsN w1 v (bytesL (joinB (q :: b)))) => dof_any v _ w1 hv (bytesL_small _) (by rw [bytesL_len]; omega))
  have H24 := Lib.hid (fun w => eq24 (shaL (bytesL (joinB (p :: a)))) (shaL (bytesL (joinB (q :: b)))) (shaL_len _) (shaL_len _) (shaL_small _) (shaL_small _) w)
  have H23 := Lib.hid (fun w => eq23 (shaL (bytesL (joinB (p :: a)))) (shaL (bytesL (joinB (q :: b)))) (shaL_len _) (shaL_len _) (shaL_small _) (shaL_small _) w)
  have Hone := Lib.hid (parts_one p q a b hpq hga hgb)
  obtain ⟨pa, ca, rfl⟩ := hv.shape
  obtain ⟨pb, cb, rfl⟩ := hu.shape
  obtain ⟨rfl, rfl⟩ := hcase
  have Hab := Lib.hid (by simp : decide (a = a) = true)
  have hpe : (p.toList == p.toList) = true := by simp
  have hxx : ((joinB (p :: a)).toList == (joinB (p :: a)).toList) = true := by simp
  have Hc : Hid (decide (shaL (bytesL (joinB (p :: a))) = shaL (bytesL (joinB (p :: a)))) = true) := Lib.hid (by simp)
  rw [Hc.out] at H24
  obtain ⟨na, hna⟩ : ∃ na, na = a.length := ⟨_, rfl⟩
  rw [← hna] at HG1 HG2 HV1 HV2 HSm HS1' HS2' hla ⊢
  have Hna := Lib.hid hna
  have Hpe := Lib.hid hpe
  clear hK hv hu hza hzb hga hgb Hone hta htb hta' htb' hjx hjy hna hpe
  have Hxx := Lib.hid hxx
  clear hxx
  generalize joinB (p :: a) = X at *
  generalize bytesL X = LX at *
  generalize shaL LX = DX at *
  have hI : ¬ (1024 : Int) < (p.size : Int) + p.size := by omega
  go_enter Tryd.func6, Tryd.ntmps6
  go_wp2_with fail
  refine HA.out.mono ?_
  rintro e w1 ⟨rfl, hB1⟩
  go_wp2_with fail
  refine (HG1.out _ hB1).mono ?_
  rintro e w2 ⟨rfl, rfl⟩
  go_wp2_with fail
  refine (HG2.out _ hB1).mono ?_
  rintro e w2 ⟨rfl, rfl⟩
  go_wp2_with (at_builtin; refine wpList_append_strs rfl (.tmp 29) (.tmp 30) rfl w.heap.size _ [p] rfl (own_text w1 w.heap.size p hB1.size) _ a (HV1.out _ (hB1.alloc hB1.size _)) rfl (by have := Hna.out; simp; omega) (by have := hB1.size; simp; omega) ?_; intro v2 w2 hown2 hgrow2; have hb2 := (hB1.alloc hB1.size _).grown hgrow2 (by have := hB1.size; simp; omega) (fun k hk => ((own_text w1 w.heap.size p hB1.size).lt k hk).1); have hs2 := Strs.ofOwn hown2; clear hown2 hgrow2 hB1)
  refine (HJ1.out _ w2 hs2).mono ?_
  rintro e w3 ⟨rfl, hB3⟩
  have hb3 := hb2.trans (hB3.mono hb2.size)
  clear hb2 hs2 hB3
  go_wp2_with (at_builtin; refine wpList_append_strs rfl (.tmp 34) (.tmp 35) rfl w.heap.size _ [p] rfl (own_text w3 w.heap.size p hb3.size) _ a (HV2.out _ (hb3.alloc hb3.size _)) rfl (by have := Hna.out; simp; omega) (by have := hb3.size; simp; omega) ?_; intro v4 w4 hown4 hgrow4; have hb4 := (hb3.alloc hb3.size _).grown hgrow4 (by have := hb3.size; simp; omega) (fun k hk => ((own_text w3 w.heap.size p hb3.size).lt k hk).1); have hs4 := Strs.ofOwn hown4; clear hown4 hgrow4 hb3)
  refine (HJ2.out _ w4 hs4).mono ?_
  rintro e w5 ⟨rfl, hB5⟩
  have hb5 := hb4.trans (hB5.mono hb4.size)
  clear hb4 hs4 hB5
  have hpe := Hpe.out
  go_wp2_with fail
  clear hpe
  refine (HSm.out _ hb5).mono ?_
  rintro e w6 ⟨rfl, k, rfl⟩
  have hb6 := below_drewN hb5 k
  obtain ⟨w5', hw5⟩ : ∃ w', w' = w5.drewN k := ⟨_, rfl⟩
  rw [← hw5] at hb6 ⊢
  clear hb5 hw5
  rw [Hab.out]
  go_wp2_with fail
  have hq := H24.out
  have hxx := Hxx.out
  have H1 := Lib.hid (fun w1 (h1 : Below w5'.heap.size w5' w1) => (HS1'.out w1 (hb6.trans (h1.mono hb6.size))).mono (fun e w2 hh => (⟨hh.1, h1.trans (hh.2.mono h1.size)⟩ : e = .returned (.agg (ints .u8 DX)) ∧ Below w5'.heap.size w5' w2)))
  have H2 := Lib.hid (fun w1 (h1 : Below w5'.heap.size w5' w1) => (HS2'.out w1 (hb6.trans (h1.mono hb6.size))).mono (fun e w2 hh => (⟨hh.1, h1.trans (hh.2.mono h1.size)⟩ : e = .returned (.agg (ints .u8 DX)) ∧ Below w5'.heap.size w5' w2)))
  refine wp_region_class (Below w5'.heap.size w5') (by kernel_rfl) (by kernel_rfl) (Below.refl _ _).drew ?_
  repeat (go_big_quiet_step (first | (intro _; rfl) | (intro hh; with_reducible exact H1.out _ hh) | (intro hh; with_reducible exact H2.out _ hh)))
  refine wpQuiet_nil ?_
  intro wq hBq
  have hb7 := hb6.trans (hBq.mono hb6.size)
  clear hq hxx hBq
  go_wp2_with fail
  go_ret
  exact ⟨rfl, hb7⟩

theorem parts_walk (p q : ByteArray) (v u : Value) (a b : List ByteArray) (w : World) (hp : p.size ≤ 140737488351232) (hq : q.size ≤ 140737488351232) (hv : Strs w v a) (hu : Strs w u b) (hza : ∀ s ∈ a, s.size ≤ 140737488351232) (hzb : ∀ s ∈ b, s.size ≤ 140737488351232) (hK : KeysAt w) : Calls Tryd.prog 6 #[.string p, v, .string q, u] w (LawEnd w) := by
  by_cases h : isGreat a = true ∨ isGreat b = true ∨ 1024 < p.size + q.size
  · exact parts_great p q v u a b w hp hq hv hu hza hzb hK h
  · have ha : isGreat a = false := by cases hg : isGreat a with | true => exact absurd (.inl hg) h | false => rfl
    have hb : isGreat b = false := by cases hg : isGreat b with | true => exact absurd (.inr (.inl hg)) h | false => rfl
    have hpq : p.size + q.size ≤ 1024 := by omega
    by_cases h1 : p = q
    · by_cases h2 : a = b
      · exact parts_like p q v u a b w hpq hv hu hza hzb hK ha hb ⟨h1, h2⟩
      · exact parts_list p q v u a b w hpq hv hu hza hzb hK ha hb ⟨h1, h2⟩
    · exact parts_purp p q v u a b w hpq hv hu hza hzb hK ha hb h1
end Go.Proofs.YtbenegkhekofmaaDoor
