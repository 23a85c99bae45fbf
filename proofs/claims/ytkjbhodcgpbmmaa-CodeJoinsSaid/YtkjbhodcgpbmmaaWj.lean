/- Walks: the statements on Split, Back and One. -/
import Derived.Test.YtkjbhodcgpbmmaaWi
import Derived.Test.YtkjbhodcgpbmmaaMc
namespace Go.Proofs.Ytkjbhodcgpbmmaa
open Go.ChangeShapes Go.WideShapes Go.ChangeAt Go.RowKit

theorem Strs.len {w : World} {v : Value} {ss : List ByteArray} (h : Strs w v ss) : ∃ a cap, v = .slice a ss.length cap := by
  rcases h with ⟨⟨pz, cz, rfl⟩, rfl⟩ | ⟨b, off, cap, rfl, _⟩
  · exact ⟨_, _, rfl⟩
  · exact ⟨_, _, rfl⟩

theorem strs_same (v u : Value) (a : List ByteArray) (w : World) (hv : Strs w v a) (hu : Strs w u a) :
    Calls Try.prog 18 #[v, u] w fun e w' => e = .returned (.bool true) ∧ ∃ k, w' = w.drewN k :=
  (same_rows v u a a w hv hu rfl).mono fun _ _ ⟨h1, h2⟩ => ⟨by simpa using h1, h2⟩

set_option maxHeartbeats 400000 in
theorem splits_walk (s : ByteArray) (w : World) (hs : s.size ≤ 140737488351232) :
    Calls Try.prog 4 #[.string s] w (LawEnd w) := by
  by_cases h : 16384 < s.size
  · go_enter Try.func4, Try.ntmps4
    go_wp2_with fail
    refine (alive_any _).mono ?_
    rintro e w1 ⟨rfl, hB1⟩
    go_wp2_with fail
    go_ret
    exact ⟨rfl, hB1⟩
  · have h16 : s.size ≤ 16384 := by omega
    clear h
    go_enter Try.func4, Try.ntmps4
    go_wp2_with fail
    refine (alive_any _).mono ?_
    rintro e w1 ⟨rfl, hB1⟩
    go_wp2_with fail
    refine (split_any s _ (by omega)).mono ?_
    rintro e w2 ⟨hB2, hr⟩
    have hB02 := hB1.trans (hB2.mono hB1.size)
    clear hB1 hB2
    cases hsp : splitB s with
    | none =>
      rw [hsp] at hr
      have Hsp := Lib.hid hsp
      clear hsp
      obtain rfl := hr
      go_wp2_with fail
      refine (refSplit_any s _ (by omega)).mono ?_
      rintro e w3 ⟨hB3, hr⟩
      have hB03 := hB02.trans (hB3.mono hB02.size)
      clear hB02 hB3
      rw [Hsp.out] at hr
      obtain ⟨v, rfl⟩ := hr
      go_wp2_with fail
      go_ret
      exact ⟨rfl, hB03⟩
    | some ps =>
      rw [hsp] at hr
      have Hsp := Lib.hid hsp
      clear hsp
      obtain ⟨v, rfl, hv⟩ := hr
      go_wp2_with fail
      refine (refSplit_any s _ (by omega)).mono ?_
      rintro e w3 ⟨hB3, hr⟩
      have hv3 := hv.below hB3
      have hB03 := hB02.trans (hB3.mono hB02.size)
      clear hB02 hB3 hv
      rw [Hsp.out] at hr
      obtain ⟨u, rfl, hu⟩ := hr
      have hc := strs_same v u ps w3 hv3 hu
      clear hv3 hu
      go_wp2_with fail
      refine hc.mono ?_
      rintro e w4 ⟨rfl, k, rfl⟩
      clear hc
      go_wp2_with fail
      go_ret
      exact ⟨rfl, below_drewN hB03 _⟩

/-- What is great, what isn't. -/
theorem great_case (ss : List ByteArray) : (16384 < total ss ∨ 200 < ss.length) ∨ (total ss ≤ 16384 ∧ ss.length ≤ 200) := by omega

theorem total_mem (ss : List ByteArray) : ∀ p ∈ ss, p.size ≤ total ss := by
  induction ss with
  | nil => intro p h; cases h
  | cons a r ih =>
    intro p h
    rcases List.mem_cons.1 h with rfl | h
    · simp [total]
    · have := ih p h; simp [total]; omega

theorem joinB_size (ss : List ByteArray) : (joinB ss).size = 8 + 8 * ss.length + total ss := by
  rw [← ba_len, joinB_list, List.length_append, numB_len, partsL_len]; omega

set_option maxHeartbeats 400000 in
theorem back_walk (v : Value) (ss : List ByteArray) (w : World) (hv : Strs w v ss) (hz : ∀ s ∈ ss, s.size ≤ 140737488351232) :
    Calls Try.prog 5 #[v] w (LawEnd w) := by
  rcases great_case ss with hg | ⟨ht, hl⟩
  · go_enter Try.func5, Try.ntmps5
    go_wp2_with fail
    refine (alive_any _).mono ?_
    rintro e w1 ⟨rfl, hB1⟩
    have hc := great_yes v ss w1 (hv.below hB1) hz hg
    clear hv
    go_wp2_with fail
    refine hc.mono ?_
    rintro e w2 ⟨rfl, rfl⟩
    clear hc
    go_wp2_with fail
    go_ret
    exact ⟨rfl, hB1⟩
  · have hj := split_join ss (by omega) (fun p hp => by have := total_mem ss p hp; omega)
    have hjs := joinB_size ss
    have hless := split_less _ _ hj (by omega)
    have hmore := split_more (joinB ss) ⟨#[120]⟩ _ hj (by decide)
    have hjs1 : 8 ≤ (joinB ss).size := by omega
    have hjs2 : (joinB ss).size ≤ 18000 := by omega
    have Hj := Lib.hid hj
    have Hl := Lib.hid hless
    have Hm := Lib.hid hmore
    clear hj hless hmore hjs
    have hjoin : ∀ w1, Below w.heap.size w w1 → Calls Try.prog 14 #[v] w1 fun e w' => e = .returned (.string (joinB ss)) ∧ Below w1.heap.size w1 w' := fun w1 hB => join_any v ss w1 (hv.below hB) (by omega) (by omega)
    generalize joinB ss = js at *
    have Hjoin := Lib.hid hjoin
    have hjx : (js ++ (⟨#[120]⟩ : ByteArray)).size ≤ 1048576 := by
      rw [ByteArray.size_append]
      have : (⟨#[120]⟩ : ByteArray).size = 1 := rfl
      omega
    have hsx : ∀ w1, Calls Try.prog 16 #[.string (js ++ ⟨#[120]⟩)] w1 (SplitEnd w1 none) := fun w1 => by
      have := split_any (js ++ ⟨#[120]⟩) w1 hjx
      rwa [Hm.out] at this
    have Hsx := Lib.hid hsx
    clear hjoin hjx hsx
    go_enter Try.func5, Try.ntmps5
    go_wp2_with fail
    refine (alive_any _).mono ?_
    rintro e w1 ⟨rfl, hB1⟩
    have hc := great_no v ss w1 (hv.below hB1) ht hl
    go_wp2_with fail
    refine hc.mono ?_
    rintro e w2 ⟨rfl, rfl⟩
    clear hc
    go_wp2_with fail
    refine (Hjoin.out _ hB1).mono ?_
    rintro e w2 ⟨rfl, hB2⟩
    have hB02 := hB1.trans (hB2.mono hB1.size)
    clear hB1 hB2
    go_wp2_with fail
    refine (split_any js _ (by omega)).mono ?_
    rintro e w3 ⟨hB3, hr⟩
    rw [Hj.out] at hr
    obtain ⟨u, rfl, hu⟩ := hr
    have hB03 := hB02.trans (hB3.mono hB02.size)
    clear hB02 hB3
    go_wp2_with fail
    refine (split_any (js.extract 0 (js.size - 1)) _ (by rw [ByteArray.size_extract]; omega)).mono ?_
    rintro e w4 ⟨hB4, hr⟩
    rw [Hl.out] at hr
    obtain rfl := hr
    have hu4 := hu.below hB4
    have hB04 := hB03.trans (hB4.mono hB03.size)
    clear hB03 hB4 hu
    go_wp2_with fail
    refine (Hsx.out _).mono ?_
    rintro e w5 ⟨hB5, hr⟩
    obtain rfl := hr
    have hu5 := hu4.below hB5
    have hB05 := hB04.trans (hB5.mono hB04.size)
    clear hB04 hB5 hu4
    have hc := strs_same u v ss w5 hu5 (hv.below hB05)
    clear hu5
    go_wp2_with fail
    refine hc.mono ?_
    rintro e w6 ⟨rfl, k, rfl⟩
    clear hc
    go_wp2_with fail
    go_ret
    exact ⟨rfl, below_drewN hB05 _⟩

/-- Whether a list is great, whatever it is. -/
def isGreat (ss : List ByteArray) : Bool := decide (16384 < total ss ∨ 200 < ss.length)

theorem great_any (v : Value) (ss : List ByteArray) (w : World) (hv : Strs w v ss) (hz : ∀ s ∈ ss, s.size ≤ 140737488351232) :
    Calls Try.prog 10 #[v] w fun e w' => e = .returned (.bool (isGreat ss)) ∧ w = w' := by
  rcases great_case ss with hg | ⟨ht, hl⟩
  · have : isGreat ss = true := by simp [isGreat, hg]
    rw [this]; exact great_yes v ss w hv hz hg
  · have : isGreat ss = false := by simp [isGreat]; omega
    rw [this]; exact great_no v ss w hv ht hl

theorem not_great {ss : List ByteArray} (h : isGreat ss = false) : total ss ≤ 16384 ∧ ss.length ≤ 200 := by
  simp [isGreat] at h; omega

set_option maxHeartbeats 400000 in
theorem one_great (s : ByteArray) (v u : Value) (a b : List ByteArray) (w : World) (hs : s.size ≤ 140737488351232) (hv : Strs w v a) (hu : Strs w u b) (hza : ∀ s ∈ a, s.size ≤ 140737488351232) (hzb : ∀ s ∈ b, s.size ≤ 140737488351232)
    (h : 16384 < s.size ∨ isGreat a = true ∨ isGreat b = true) :
    Calls Try.prog 6 #[.string s, v, u] w (LawEnd w) := by
  by_cases h1 : 16384 < s.size
  · go_enter Try.func6, Try.ntmps6
    go_wp2_with fail
    refine (alive_any _).mono ?_
    rintro e w1 ⟨rfl, hB1⟩
    have h2 : decide ((16384 : Int) < s.size) = true := by simp; omega
    go_wp2_with fail
    go_ret
    exact ⟨rfl, hB1⟩
  · have h2 : decide ((16384 : Int) < s.size) = false := by simp; omega
    have hor : isGreat a = true ∨ isGreat b = true := h.resolve_left h1
    clear h h1
    go_enter Try.func6, Try.ntmps6
    go_wp2_with fail
    refine (alive_any _).mono ?_
    rintro e w1 ⟨rfl, hB1⟩
    have hc := great_any v a w1 (hv.below hB1) hza
    have hd := great_any u b w1 (hu.below hB1) hzb
    have Hd := Lib.hid hd
    clear hv hu hd hza hzb
    go_wp2_with fail
    refine hc.mono ?_
    rintro e w2 ⟨rfl, rfl⟩
    clear hc
    cases hga : isGreat a with
    | true =>
      clear hor hga Hd
      go_wp2_with fail
      go_ret
      exact ⟨rfl, hB1⟩
    | false =>
      have hgb : isGreat b = true := by rw [hga] at hor; simpa using hor
      clear hor hga
      go_wp2_with fail
      refine Hd.out.mono ?_
      rintro e w2 ⟨rfl, rfl⟩
      rw [hgb]
      clear hgb Hd
      go_wp2_with fail
      go_ret
      exact ⟨rfl, hB1⟩
end Go.Proofs.Ytkjbhodcgpbmmaa
