/- Walks: the law SuffixTests. -/
import Derived.Test.YtlgmnhjdnmjpgaaDoorWj
import Derived.Test.YtlgmnhjdnmjpgaaDoorMb
namespace Go.Proofs.YtlgmnhjdnmjpgaaDoor
set_option linter.unusedVariables false
open Go.ChangeShapes Go.WideShapes Go.ChangeAt Go.RowKit

theorem hm_below {m : Int} {w w' : World} (hm : w.cell? ⟨0, 0, none⟩ = some (.int .i64 m)) (hB : Below w.heap.size w w') : w'.cell? ⟨0, 0, none⟩ = some (.int .i64 m) := by
  have h0 : 0 < w.heap.size := by
    have := World.block_lt_of_cell? w _ hm
    simpa using this
  exact (hB.cell (p := ⟨0, 0, none⟩) h0).trans hm

theorem of_to (x : ByteArray) (r : Bool × Bool × ByteArray × ByteArray) (m : Int) (w : World) (hx : ofB x = r) (hs : x.size ≤ 1073741824) (hm : w.cell? ⟨0, 0, none⟩ = some (.int .i64 m)) : ∀ w1, Below w.heap.size w w1 → Calls Tryd.prog 17 #[.string x] w1 fun e w' => e = .returned (agg4 r) ∧ Below w1.heap.size w1 w' :=
  fun w1 hB => hx ▸ of_any x m w1 hs (hm_below hm hB)

set_option maxHeartbeats 1000000 in
/-- What is left once the two names are told: the first isn't the language's, nor is the second. -/
theorem tests_no (s : ByteArray) (m : Int) (w : World) (hle : s.size ≤ 512) (he : endsB s testE = false) (hm : w.cell? ⟨0, 0, none⟩ = some (.int .i64 m)) (h1 : ofB (s ++ ⟨#[46, 103, 111]⟩) = (false, false, ⟨#[]⟩, ⟨#[]⟩)) (h2 : ofB (s ++ ⟨#[95, 116, 101, 115, 116, 46, 103, 111]⟩) = (false, false, ⟨#[]⟩, ⟨#[]⟩)) :
    Calls Tryd.prog 6 #[.string s] w (LawEnd w) := by
  have H7 := Lib.hid (alive_any m w hm)
  have hleI : (s.size : Int) ≤ 512 := by omega
  have HE : ∀ w1, Calls Tryd.prog 21 #[.string s, .string ⟨#[95, 116, 101, 115, 116]⟩] w1 fun e w' => e = .returned (.bool (endsB s testE)) ∧ w1 = w' := fun w1 => ends_any s testE w1 (by omega) (by decide)
  rw [he] at HE
  have HE' := Lib.hid HE
  have HA := Lib.hid (of_to _ _ m w h1 (by rw [app_size, show (⟨#[46, 103, 111]⟩ : ByteArray).size = 3 from rfl]; omega) hm)
  have HB := Lib.hid (of_to _ _ m w h2 (by rw [app_size, show (⟨#[95, 116, 101, 115, 116, 46, 103, 111]⟩ : ByteArray).size = 8 from rfl]; omega) hm)
  clear HE he h1 h2
  go_enter Tryd.func6, Tryd.ntmps6
  go_wp2_with fail
  refine H7.out.mono ?_
  rintro e w1 ⟨rfl, hB⟩
  go_wp2_with fail
  refine (HE'.out _).mono ?_
  rintro e w2 ⟨rfl, rfl⟩
  go_wp2_with fail
  refine (HA.out _ hB).mono ?_
  rintro e w2 ⟨rfl, hB2⟩
  replace hB := hB.trans (hB2.mono hB.size)
  clear hB2
  unfold agg4
  go_wp2_with fail
  refine (HB.out _ hB).mono ?_
  rintro e w3 ⟨rfl, hB2⟩
  replace hB := hB.trans (hB2.mono hB.size)
  clear hB2
  unfold agg4
  have hBs := hB.size
  go_wp2_with fail
  go_ret
  exact ⟨rfl, (hB.alloc hBs _).alloc (by simp; omega) _⟩

set_option maxHeartbeats 1000000 in
theorem tests_yes (s : ByteArray) (t : ByteArray × ByteArray) (m : Int) (w : World) (hle : s.size ≤ 512) (he : endsB s testE = false) (hm : w.cell? ⟨0, 0, none⟩ = some (.int .i64 m)) (h1 : ofB (s ++ ⟨#[46, 103, 111]⟩) = (true, false, t)) (h2 : ofB (s ++ ⟨#[95, 116, 101, 115, 116, 46, 103, 111]⟩) = (true, true, t)) :
    Calls Tryd.prog 6 #[.string s] w (LawEnd w) := by
  have H7 := Lib.hid (alive_any m w hm)
  have hleI : (s.size : Int) ≤ 512 := by omega
  have HE : ∀ w1, Calls Tryd.prog 21 #[.string s, .string ⟨#[95, 116, 101, 115, 116]⟩] w1 fun e w' => e = .returned (.bool (endsB s testE)) ∧ w1 = w' := fun w1 => ends_any s testE w1 (by omega) (by decide)
  rw [he] at HE
  have HE' := Lib.hid HE
  have HA := Lib.hid (of_to _ _ m w h1 (by rw [app_size, show (⟨#[46, 103, 111]⟩ : ByteArray).size = 3 from rfl]; omega) hm)
  have HB := Lib.hid (of_to _ _ m w h2 (by rw [app_size, show (⟨#[95, 116, 101, 115, 116, 46, 103, 111]⟩ : ByteArray).size = 8 from rfl]; omega) hm)
  clear HE he h1 h2
  obtain ⟨o, a⟩ := t
  go_enter Tryd.func6, Tryd.ntmps6
  go_wp2_with fail
  refine H7.out.mono ?_
  rintro e w1 ⟨rfl, hB⟩
  go_wp2_with fail
  refine (HE'.out _).mono ?_
  rintro e w2 ⟨rfl, rfl⟩
  go_wp2_with fail
  refine (HA.out _ hB).mono ?_
  rintro e w2 ⟨rfl, hB2⟩
  replace hB := hB.trans (hB2.mono hB.size)
  clear hB2
  unfold agg4
  go_wp2_with fail
  refine (HB.out _ hB).mono ?_
  rintro e w3 ⟨rfl, hB2⟩
  replace hB := hB.trans (hB2.mono hB.size)
  clear hB2
  unfold agg4
  have hBs := hB.size
  go_wp2_with fail
  go_ret
  exact ⟨rfl, (hB.alloc hBs _).alloc (by simp; omega) _⟩

set_option maxHeartbeats 1000000 in
theorem tests_walk (s : ByteArray) (m : Int) (w : World) (hs : s.size ≤ 140737488351232) (hm : w.cell? ⟨0, 0, none⟩ = some (.int .i64 m)) :
    Calls Tryd.prog 6 #[.string s] w (LawEnd w) := by
  by_cases hle : s.size ≤ 512
  · by_cases he : endsB s testE = true
    · have H7 := Lib.hid (alive_any m w hm)
      have hleI : (s.size : Int) ≤ 512 := by omega
      have HE : ∀ w1, Calls Tryd.prog 21 #[.string s, .string ⟨#[95, 116, 101, 115, 116]⟩] w1 fun e w' => e = .returned (.bool (endsB s testE)) ∧ w1 = w' := fun w1 => ends_any s testE w1 (by omega) (by decide)
      rw [he] at HE
      have HE' := Lib.hid HE
      clear HE he
      go_enter Tryd.func6, Tryd.ntmps6
      go_wp2_with fail
      refine H7.out.mono ?_
      rintro e w1 ⟨rfl, hB⟩
      go_wp2_with fail
      refine (HE'.out _).mono ?_
      rintro e w2 ⟨rfl, rfl⟩
      go_wp2_with fail
      go_ret
      exact ⟨rfl, hB⟩
    have he := Bool.eq_false_iff.2 he
    by_cases h0 : 0 < s.size
    · by_cases hp : passB s = true
      · exact tests_no s m w hle he hm (ofB_pass s _ h0 hp) (ofB_pass s _ h0 hp)
      · have hp := Bool.eq_false_iff.2 hp
        exact tests_yes s _ m w hle he hm (ofB_go s h0 hp he) (ofB_test s h0 hp)
    · have e : s = ⟨#[]⟩ := empty_of s (by unfold some1; rw [show s.size = 0 by omega]; rfl)
      subst e
      exact tests_no _ m w hle he hm (by decide +kernel) (by decide +kernel)
  · have hleI : ¬ (s.size : Int) ≤ 512 := by omega
    have H7 := Lib.hid (alive_any m w hm)
    go_enter Tryd.func6, Tryd.ntmps6
    go_wp2_with fail
    refine H7.out.mono ?_
    rintro e w1 ⟨rfl, hB⟩
    go_wp2_with fail
    go_ret
    exact ⟨rfl, hB⟩
end Go.Proofs.YtlgmnhjdnmjpgaaDoor
