/- Walks: the statement CodeWithin. -/
import Derived.Test.YtkjbhodcgpbmmaaWk
namespace Go.Proofs.Ytkjbhodcgpbmmaa
open Go.ChangeShapes Go.WideShapes Go.ChangeAt Go.RowKit

theorem Strs.two (w : World) (s t : ByteArray) : Strs (w.alloc (.cells #[.string s, .string t] 9)) (.slice (some ⟨w.heap.size, 0, none⟩) 2 2) [s, t] := by
  refine .inr ⟨w.heap.size, 0, 2, rfl, by simp, by unfold maxLen; omega, by simp, fun i hi => ?_⟩
  rw [World.cell?_alloc_at _ _ _ _ rfl]
  rcases (by simp at hi; omega : i = 0 ∨ i = 1) with rfl | rfl <;> rfl

theorem Strs.two_cells {w : World} {v : Value} {s t : ByteArray} (h : Strs w v [s, t]) : ∃ b off cap, v = .slice (some ⟨b, off, none⟩) 2 cap ∧ 2 ≤ cap ∧ cap ≤ maxLen ∧ b < w.heap.size ∧ w.cell? ⟨b, off, none⟩ = some (.string s) ∧ w.cell? ⟨b, off + 1, none⟩ = some (.string t) := by
  rcases h with ⟨_, h⟩ | ⟨b, off, cap, hv, hl, hc, hb, hcell⟩
  · cases h
  · exact ⟨b, off, cap, hv, hl, hc, hb, by simpa using hcell 0 (by simp), by simpa using hcell 1 (by simp)⟩

set_option maxHeartbeats 400000 in
theorem within_great (v u : Value) (a b : List ByteArray) (w : World) (hv : Strs w v a) (hu : Strs w u b) (hza : ∀ s ∈ a, s.size ≤ 140737488351232) (hzb : ∀ s ∈ b, s.size ≤ 140737488351232)
    (h : isGreat a = true ∨ isGreat b = true) :
    Calls Try.prog 8 #[v, u] w (LawEnd w) := by
  go_enter Try.func8, Try.ntmps8
  go_wp2_with fail
  refine (alive_any _).mono ?_
  rintro e w1 ⟨rfl, hB1⟩
  have hc := great_any v a w1 (hv.below hB1) hza
  have hd := great_any u b w1 (hu.below hB1) hzb
  have Hd := Lib.hid hd
  have Hc := Lib.hid hc
  clear hv hu hd hc hza hzb
  go_wp2_with fail
  refine Hc.out.mono ?_
  rintro e w2 ⟨rfl, rfl⟩
  clear Hc
  cases hga : isGreat a with
  | true =>
    clear h hga Hd
    go_wp2_with fail
    go_ret
    exact ⟨rfl, hB1⟩
  | false =>
    have hgb : isGreat b = true := by rw [hga] at h; simpa using h
    clear h hga
    go_wp2_with fail
    refine Hd.out.mono ?_
    rintro e w2 ⟨rfl, rfl⟩
    rw [hgb]
    clear hgb Hd
    go_wp2_with fail
    go_ret
    exact ⟨rfl, hB1⟩

set_option maxHeartbeats 800000 in
theorem within_small (v u : Value) (a b : List ByteArray) (w : World) (hv : Strs w v a) (hu : Strs w u b) (hga : isGreat a = false) (hgb : isGreat b = false) :
    Calls Try.prog 8 #[v, u] w (LawEnd w) := by
  obtain ⟨hta, hla⟩ := not_great hga
  obtain ⟨htb, hlb⟩ := not_great hgb
  have hsa := joinB_size a
  have hsb := joinB_size b
  have hjs : (joinB a).size ≤ 18000 := by omega
  have hjs2 : (joinB b).size ≤ 18000 := by omega
  have hspa := split_join a (by omega) (fun p hp => by have := total_mem a p hp; omega)
  have hspb := split_join b (by omega) (fun p hp => by have := total_mem b p hp; omega)
  have hc1 : ∀ w1, Below w.heap.size w w1 → Calls Try.prog 10 #[v] w1 fun e w' => e = .returned (.bool false) ∧ w1 = w' := fun w1 hB => great_no v a w1 (hv.below hB) hta hla
  have hc2 : ∀ w1, Below w.heap.size w w1 → Calls Try.prog 10 #[u] w1 fun e w' => e = .returned (.bool false) ∧ w1 = w' := fun w1 hB => great_no u b w1 (hu.below hB) htb hlb
  have hj1 : ∀ w1, Below w.heap.size w w1 → Calls Try.prog 14 #[v] w1 fun e w' => e = .returned (.string (joinB a)) ∧ Below w1.heap.size w1 w' := fun w1 hB => join_any v a w1 (hv.below hB) (by omega) (by omega)
  have hj2 : ∀ w1, Below w.heap.size w w1 → Calls Try.prog 14 #[u] w1 fun e w' => e = .returned (.string (joinB b)) ∧ Below w1.heap.size w1 w' := fun w1 hB => join_any u b w1 (hu.below hB) (by omega) (by omega)
  have hs1 : ∀ x w1, Below w.heap.size w w1 → Strs w1 x a → Calls Try.prog 18 #[x, v] w1 fun e w' => e = .returned (.bool true) ∧ ∃ k, w' = w1.drewN k := fun x w1 hB hx => strs_same x v a w1 hx (hv.below hB)
  have hs2 : ∀ x w1, Below w.heap.size w w1 → Strs w1 x b → Calls Try.prog 18 #[x, u] w1 fun e w' => e = .returned (.bool true) ∧ ∃ k, w' = w1.drewN k := fun x w1 hB hx => strs_same x u b w1 hx (hu.below hB)
  generalize joinB a = ja at *
  generalize joinB b = jb at *
  have hjj := split_join [ja, jb] (by simp) (fun p hp => by simp at hp; rcases hp with rfl | rfl <;> omega)
  have hjjs := joinB_size [ja, jb]
  have hjjl : (joinB [ja, jb]).size ≤ 40000 := by simp [total] at hjjs; omega
  have hjoin : ∀ w1 x, Strs w1 x [ja, jb] → Calls Try.prog 14 #[x] w1 fun e w' => e = .returned (.string (joinB [ja, jb])) ∧ Below w1.heap.size w1 w' := fun w1 x hx => join_any x _ w1 hx (by simp [total]; omega) (by simp)
  generalize joinB [ja, jb] = jj at *
  have Hc1 := Lib.hid hc1
  have Hc2 := Lib.hid hc2
  have Hj1 := Lib.hid hj1
  have Hj2 := Lib.hid hj2
  have Hs1 := Lib.hid hs1
  have Hs2 := Lib.hid hs2
  have Hspa := Lib.hid hspa
  have Hspb := Lib.hid hspb
  have Hjj := Lib.hid hjj
  have Hjoin := Lib.hid hjoin
  clear hc1 hc2 hj1 hj2 hs1 hs2 hspa hspb hjj hjoin hsa hsb hga hgb hta htb hla hlb hv hu hjjs
  go_enter Try.func8, Try.ntmps8
  go_wp2_with fail
  refine (alive_any _).mono ?_
  rintro e w1 ⟨rfl, hB1⟩
  go_wp2_with fail
  refine (Hc1.out _ hB1).mono ?_
  rintro e w2 ⟨rfl, rfl⟩
  go_wp2_with fail
  refine (Hc2.out _ hB1).mono ?_
  rintro e w2 ⟨rfl, rfl⟩
  go_wp2_with fail
  refine (Hj1.out _ hB1).mono ?_
  rintro e w2 ⟨rfl, hB2⟩
  have hB02 := hB1.trans (hB2.mono hB1.size)
  clear hB1 hB2
  go_wp2_with fail
  refine (Hj2.out _ hB02).mono ?_
  rintro e w3 ⟨rfl, hB3⟩
  have hB03 := hB02.trans (hB3.mono hB02.size)
  clear hB02 hB3
  go_wp2_with fail
  refine (Hjoin.out _ _ (Strs.two w3 ja jb)).mono ?_
  rintro e w4 ⟨rfl, hB4⟩
  have hB04 := (hB03.alloc hB03.size _).trans (hB4.mono (by have := hB03.size; simp; omega))
  clear hB03 hB4
  go_wp2_with fail
  refine (split_any jj _ (by omega)).mono ?_
  rintro e w5 ⟨hB5, hr⟩
  have hB05 := hB04.trans (hB5.mono hB04.size)
  clear hB04 hB5
  rw [Hjj.out] at hr
  obtain ⟨x, rfl, hx⟩ := hr
  obtain ⟨b0, off, cap, rfl, hcap, hmax, hb, hcell, hcell1⟩ := hx.two_cells
  clear hx
  unfold maxLen at hmax
  go_wp2_with fail
  refine (split_any ja _ (by omega)).mono ?_
  rintro e w6 ⟨hB6, hr⟩
  rw [Hspa.out] at hr
  obtain ⟨y, rfl, hy⟩ := hr
  have hcell2 : w6.cell? ⟨b0, off + 1, none⟩ = some (.string jb) := by rw [hB6.cell (p := ⟨b0, off + 1, none⟩) hb]; exact hcell1
  have hB06 := hB05.trans (hB6.mono hB05.size)
  clear hB05 hB6 hcell hcell1
  go_wp2_with fail
  refine (split_any jb _ (by omega)).mono ?_
  rintro e w7 ⟨hB7, hr⟩
  rw [Hspb.out] at hr
  obtain ⟨z, rfl, hz⟩ := hr
  have hy7 := hy.below hB7
  have hB07 := hB06.trans (hB7.mono hB06.size)
  clear hB06 hB7 hcell2 hy
  have Hy := Lib.hid hy7
  have Hz := Lib.hid hz
  clear hy7 hz
  go_wp2_with fail
  refine (Hs1.out _ _ hB07 Hy.out).mono ?_
  rintro e w8 ⟨rfl, k, rfl⟩
  have hz8 : Strs (w7.drewN k) z b := Hz.out.below (below_drewN (Below.refl _ _) _)
  have hB08 := below_drewN hB07 k
  clear hB07 Hz Hy
  generalize w7.drewN k = w8 at *
  have Hz8 := Lib.hid hz8
  clear hz8
  go_wp2_with fail
  refine (Hs2.out _ _ hB08 Hz8.out).mono ?_
  rintro e w9 ⟨rfl, k, rfl⟩
  go_wp2_with fail
  go_ret
  exact ⟨rfl, below_drewN hB08 _⟩

theorem within_walk (v u : Value) (a b : List ByteArray) (w : World) (hv : Strs w v a) (hu : Strs w u b) (hza : ∀ s ∈ a, s.size ≤ 140737488351232) (hzb : ∀ s ∈ b, s.size ≤ 140737488351232) :
    Calls Try.prog 8 #[v, u] w (LawEnd w) := by
  cases hga : isGreat a with
  | true => exact within_great v u a b w hv hu hza hzb (.inl hga)
  | false => cases hgb : isGreat b with
    | true => exact within_great v u a b w hv hu hza hzb (.inr hgb)
    | false => exact within_small v u a b w hv hu hga hgb
end Go.Proofs.Ytkjbhodcgpbmmaa
