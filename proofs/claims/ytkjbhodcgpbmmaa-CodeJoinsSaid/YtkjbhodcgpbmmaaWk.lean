/- Walks: the statement CodeOne, small lists. -/
import Derived.Test.YtkjbhodcgpbmmaaWj
namespace Go.Proofs.Ytkjbhodcgpbmmaa
set_option linter.unusedVariables false
open Go.ChangeShapes Go.WideShapes Go.ChangeAt Go.RowKit

theorem same_any (v u : Value) (a b : List ByteArray) (w : World) (hv : Strs w v a) (hu : Strs w u b) (ha : a.length ≤ 9223372036854775807) (hb : b.length ≤ 9223372036854775807) :
    Calls Try.prog 18 #[v, u] w fun e w' => e = .returned (.bool (decide (a = b))) ∧ ∃ k, w' = w.drewN k := by
  by_cases h : a.length = b.length
  · exact same_rows v u a b w hv hu h
  · have hne : ¬ a = b := fun e => h (by rw [e])
    exact (same_len v u a b w hv hu h ha hb).mono fun _ _ ⟨h1, h2⟩ => ⟨by simpa [hne] using h1, 0, by rw [← h2]; rfl⟩

theorem toList_beq_ne {x y : ByteArray} (h : x ≠ y) : (x.toList == y.toList) = false := by
  rw [beq_eq_false_iff_ne]
  intro e
  apply h
  rw [Lib.toList_data, Lib.toList_data] at e
  exact ba_ext e

/-- What the end of the law needs: both joined, and held against each other. -/
theorem joins_beq (a b : List ByteArray) (hta : total a ≤ 16384) (hla : a.length ≤ 200) (htb : total b ≤ 16384) (hlb : b.length ≤ 200) : ((joinB a).toList == (joinB b).toList) = decide (a = b) := by
  have hone := join_one a b (by omega) (by omega) (fun p hp => by have := total_mem a p hp; omega) (fun p hp => by have := total_mem b p hp; omega)
  by_cases h : a = b
  · subst h; simp
  · rw [toList_beq_ne (fun e => h (hone.1 e))]; simp [h]

set_option maxHeartbeats 400000 in
theorem one_small (s : ByteArray) (v u : Value) (a b : List ByteArray) (w : World) (h1 : s.size ≤ 16384) (hv : Strs w v a) (hu : Strs w u b)
    (hga : isGreat a = false) (hgb : isGreat b = false) (hza : ∀ s ∈ a, s.size ≤ 140737488351232) (hzb : ∀ s ∈ b, s.size ≤ 140737488351232) :
    Calls Try.prog 6 #[.string s, v, u] w (LawEnd w) := by
  obtain ⟨hta, hla⟩ := not_great hga
  obtain ⟨htb, hlb⟩ := not_great hgb
  have hbeq := joins_beq a b hta hla htb hlb
  have hsa := joinB_size a
  have hsb := joinB_size b
  have hjs : (joinB a).size ≤ 18000 := by omega
  have hjs2 : (joinB b).size ≤ 18000 := by omega
  have hc1 : ∀ w1, Below w.heap.size w w1 → Calls Try.prog 10 #[v] w1 fun e w' => e = .returned (.bool false) ∧ w1 = w' := fun w1 hB => great_no v a w1 (hv.below hB) hta hla
  have hc2 : ∀ w1, Below w.heap.size w w1 → Calls Try.prog 10 #[u] w1 fun e w' => e = .returned (.bool false) ∧ w1 = w' := fun w1 hB => great_no u b w1 (hu.below hB) htb hlb
  have hj1 : ∀ w1, Below w.heap.size w w1 → Calls Try.prog 14 #[v] w1 fun e w' => e = .returned (.string (joinB a)) ∧ Below w1.heap.size w1 w' := fun w1 hB => join_any v a w1 (hv.below hB) (by omega) (by omega)
  have hj2 : ∀ w1, Below w.heap.size w w1 → Calls Try.prog 14 #[u] w1 fun e w' => e = .returned (.string (joinB b)) ∧ Below w1.heap.size w1 w' := fun w1 hB => join_any u b w1 (hu.below hB) (by omega) (by omega)
  have hsm : ∀ w1, Below w.heap.size w w1 → Calls Try.prog 18 #[v, u] w1 fun e w' => e = .returned (.bool (decide (a = b))) ∧ ∃ k, w' = w1.drewN k := fun w1 hB => same_any v u a b w1 (hv.below hB) (hu.below hB) (by omega) (by omega)
  generalize hd : decide (a = b) = d at *
  generalize joinB a = ja at *
  generalize joinB b = jb at *
  have Hc1 := Lib.hid hc1
  have Hc2 := Lib.hid hc2
  have Hj1 := Lib.hid hj1
  have Hj2 := Lib.hid hj2
  have Hsm := Lib.hid hsm
  have Hbeq := Lib.hid hbeq
  clear hc1 hc2 hj1 hj2 hsm hd hsa hsb hga hgb hza hzb hta htb hla hlb hv hu hbeq
  have h2 : decide ((16384 : Int) < s.size) = false := by simp; omega
  go_enter Try.func6, Try.ntmps6
  go_wp2_with fail
  refine (alive_any _).mono ?_
  rintro e w1 ⟨rfl, hB1⟩
  go_wp2_with fail
  refine (Hc1.out _ hB1).mono ?_
  rintro e w2 ⟨rfl, rfl⟩
  go_wp2_with fail
  refine (Hc2.out _ hB1).mono ?_
  rintro e w2 ⟨rfl, rfl⟩
  go_wp2_with fail
  refine (split_any s _ (by omega)).mono ?_
  rintro e w3 ⟨hB3, hr⟩
  have hB03 := hB1.trans (hB3.mono hB1.size)
  clear hB1 hB3
  cases hsp : splitB s with
  | none =>
    rw [hsp] at hr
    obtain rfl := hr
    clear hsp
    go_wp2_with fail
    refine (Hj1.out _ hB03).mono ?_
    rintro e w4 ⟨rfl, hB4⟩
    have hB04 := hB03.trans (hB4.mono hB03.size)
    clear hB03 hB4
    go_wp2_with fail
    refine (Hj2.out _ hB04).mono ?_
    rintro e w5 ⟨rfl, hB5⟩
    have hB05 := hB04.trans (hB5.mono hB04.size)
    clear hB04 hB5
    go_wp2_with fail
    refine (Hsm.out _ hB05).mono ?_
    rintro e w6 ⟨rfl, k, rfl⟩
    have hb := Hbeq.out
    cases d
    all_goals
      go_wp2_with fail
      go_ret
      exact ⟨rfl, below_drewN hB05 _⟩
  | some ps =>
    rw [hsp] at hr
    obtain ⟨x, rfl, hx⟩ := hr
    have hjp := join_split s ps hsp
    have hps := joinB_size ps
    rw [hjp] at hps
    have hc := join_any x ps w3 hx (by omega) (by omega)
    rw [hjp] at hc
    have Hc := Lib.hid hc
    clear hsp hjp hps hc
    go_wp2_with fail
    refine Hc.out.mono ?_
    rintro e w4 ⟨rfl, hB4⟩
    clear hx Hc
    have hB04 := hB03.trans (hB4.mono hB03.size)
    clear hB03 hB4
    go_wp2_with fail
    refine (Hj1.out _ hB04).mono ?_
    rintro e w5 ⟨rfl, hB5⟩
    have hB05 := hB04.trans (hB5.mono hB04.size)
    clear hB04 hB5
    go_wp2_with fail
    refine (Hj2.out _ hB05).mono ?_
    rintro e w6 ⟨rfl, hB6⟩
    have hB06 := hB05.trans (hB6.mono hB05.size)
    clear hB05 hB6
    go_wp2_with fail
    refine (Hsm.out _ hB06).mono ?_
    rintro e w7 ⟨rfl, k, rfl⟩
    have hb := Hbeq.out
    cases d
    all_goals
      go_wp2_with fail
      go_ret
      exact ⟨rfl, below_drewN hB06 _⟩

theorem one_walk (s : ByteArray) (v u : Value) (a b : List ByteArray) (w : World) (hs : s.size ≤ 140737488351232) (hv : Strs w v a) (hu : Strs w u b) (hza : ∀ s ∈ a, s.size ≤ 140737488351232) (hzb : ∀ s ∈ b, s.size ≤ 140737488351232) :
    Calls Try.prog 6 #[.string s, v, u] w (LawEnd w) := by
  by_cases h1 : s.size ≤ 16384
  · cases hga : isGreat a with
    | true => exact one_great s v u a b w hs hv hu hza hzb (.inr (.inl hga))
    | false => cases hgb : isGreat b with
      | true => exact one_great s v u a b w hs hv hu hza hzb (.inr (.inr hgb))
      | false => exact one_small s v u a b w h1 hv hu hga hgb hza hzb
  · exact one_great s v u a b w hs hv hu hza hzb (.inl (by omega))
end Go.Proofs.Ytkjbhodcgpbmmaa
