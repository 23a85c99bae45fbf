/- Walks: a sign at a place. -/
import Derived.Test.YtejogobhnbjpdaaDoorKt
import Derived.Test.YtejogobhnbjpdaaDoorSh
import Derived.WalkSpells
import Derived.WalkLawsBesides
import Derived.Deep.DeepFit
import Derived.Deep.QuietTactic
import Derived.Lib.DecodeN
import Derived.Lib.Strings
namespace Go.Proofs.YtejogobhnbjpdaaDoor
open Go.ChangeShapes Go.WideShapes Go.ChangeAt Go.RowKit

/-- What Go's decoder answers at place i. -/
def dec (s : ByteArray) (i : Nat) : Nat × Nat := Lib.decodeN (s.size - i) (s.get! i).toNat (s.get! (i + 1)).toNat (s.get! (i + 2)).toNat (s.get! (i + 3)).toNat

theorem get_extract (s : ByteArray) (i k : Nat) : (s.extract i s.size).get! k = s.get! (i + k) := by
  have hd : (s.extract i s.size).data.toList = s.data.toList.drop i := by
    rw [Lib.extract_data, List.take_of_length_le (by rw [List.length_drop, ← Lib.size_eq]; omega)]
  have hg : ∀ (t : ByteArray) (j : Nat), t.get! j = (t.data.toList[j]?).getD default := by
    intro t j
    show t.data[j]! = _
    rw [getElem!_def, Array.getElem?_toList]
    cases t.data[j]? <;> rfl
  rw [hg, hg, hd, List.getElem?_drop]

theorem dec_extract (s : ByteArray) (i : Nat) (hi : i < s.size) : Lib.decodeGo (s.extract i s.size) = dec s i := by
  unfold Lib.decodeGo
  rw [if_neg (by rw [ByteArray.size_extract]; omega), Lib.decode_at, dec, get_extract s i 0, get_extract s i (0 + 1), get_extract s i (0 + 2), get_extract s i (0 + 3)]
  simp [ByteArray.size_extract]

/-- What utf.Rune makes of it. -/
def runeV (r n i : Nat) : Int × Nat := if r = 0 ∨ (r = 65533 ∧ n = 1) then (-1, 1) else if r = 65279 ∧ 0 < i then (-1, n) else (r, n)
def runeAt (s : ByteArray) (i : Nat) : Int × Nat := runeV (dec s i).1 (dec s i).2 i

set_option maxRecDepth 100000 in
set_option maxHeartbeats 400000 in
theorem rune_out (s : ByteArray) (at_ : Int) (w : World) (h : at_ < 0 ∨ (s.size : Int) ≤ at_) :
    Calls Tryd.prog 61 #[.string s, .int .i64 at_] w fun e w' => e = .returned (.tuple #[.int .i32 (-1), .int .i64 0]) ∧ w = w' := by
  by_cases h0 : at_ < 0
  · have h1 : decide (at_ < 0) = true := by simpa using h0
    clear h0 h
    go_enter Tryd.func61, Tryd.ntmps61
    go_wp2_with fail
    go_ret2
    exact ⟨rfl, rfl⟩
  · have h1 : decide (at_ < 0) = false := by simp; omega
    have h2 : decide ((s.size : Int) ≤ at_) = true := by simp; omega
    clear h0 h
    go_enter Tryd.func61, Tryd.ntmps61
    go_wp2_with fail
    go_ret2
    exact ⟨rfl, rfl⟩

set_option maxRecDepth 100000 in
set_option maxHeartbeats 400000 in
theorem rune_in (s : ByteArray) (i : Nat) (w : World) (hi : i < s.size) (hs : s.size ≤ 9223372036854775807) (hT : Lib.Utf8Tabs 1 2 w) :
    Calls Tryd.prog 61 #[.string s, .int .i64 i] w fun e w' => e = .returned (.tuple #[.int .i32 (runeAt s i).1, .int .i64 (runeAt s i).2]) ∧ Below w.heap.size w w' := by
  have hdec := Tryd.utf8_DecodeRuneInString (s.extract i s.size) w hT
  rw [dec_extract s i hi] at hdec
  unfold runeAt
  generalize dec s i = d at *
  obtain ⟨r, n⟩ := d
  have Hd := Lib.hid hdec
  clear hdec
  have h1 : decide ((i : Int) < 0) = false := by simp
  have h2 : decide ((s.size : Int) ≤ i) = false := by simp; omega
  have hi2 : (i : Int) ≤ s.size := by omega
  simp only
  by_cases c1 : r = 0
  · subst c1
    have hv : runeV 0 n i = (-1, 1) := by simp [runeV]
    rw [hv]
    go_enter Tryd.func61, Tryd.ntmps61
    go_wp2_with fail
    refine Hd.out.mono ?_
    rintro e w1 ⟨rfl, hB⟩
    go_wp2_with fail
    go_ret2
    exact ⟨rfl, hB⟩
  · have t1 : ((r : Int) == 0) = false := by simp; omega
    by_cases c2 : r = 65533 ∧ n = 1
    · obtain ⟨rfl, rfl⟩ := c2
      have hv : runeV 65533 1 i = (-1, 1) := by simp [runeV]
      rw [hv]
      go_enter Tryd.func61, Tryd.ntmps61
      go_wp2_with fail
      refine Hd.out.mono ?_
      rintro e w1 ⟨rfl, hB⟩
      go_wp2_with fail
      go_ret2
      exact ⟨rfl, hB⟩
    · by_cases c4 : r = 65533
      · subst c4
        have hn1 : ¬ n = 1 := fun e => c2 ⟨rfl, e⟩
        have t2 : ((n : Int) == 1) = false := by simp; omega
        have hv : runeV 65533 n i = (65533, n) := by simp [runeV, hn1]
        rw [hv]
        clear c2 hn1 hv c1
        go_enter Tryd.func61, Tryd.ntmps61
        go_wp2_with fail
        refine Hd.out.mono ?_
        rintro e w1 ⟨rfl, hB⟩
        go_wp2_with fail
        go_ret2
        exact ⟨rfl, hB⟩
      · have t2 : ((r : Int) == 65533) = false := by simp; omega
        by_cases c5 : r = 65279
        · subst c5
          by_cases c6 : 0 < i
          · have t3 : decide (0 < i) = true := by simp; omega
            have hv : runeV 65279 n i = (-1, (n : Nat)) := by simp [runeV, c6]
            rw [hv]
            clear c2 hv c1 c4 c6
            go_enter Tryd.func61, Tryd.ntmps61
            go_wp2_with fail
            refine Hd.out.mono ?_
            rintro e w1 ⟨rfl, hB⟩
            go_wp2_with fail
            go_ret2
            exact ⟨rfl, hB⟩
          · have hi0 : i = 0 := by omega
            subst hi0
            have h2z : decide ((s.size : Int) ≤ 0) = false := decide_eq_false (by omega)
            have h2n : ¬ s.size = 0 := by omega
            have h2e : ¬ s = ByteArray.empty := by rintro rfl; simp at hi
            have hv : runeV 65279 n 0 = (65279, n) := by simp [runeV]
            rw [hv]
            have e0 : s.extract 0 s.size = s := by simp
            have hd0 := Hd.out
            rw [e0] at hd0
            have Hz := Lib.hid hd0
            clear c2 hv c1 c4 c6 e0 hd0 Hd
            go_enter Tryd.func61, Tryd.ntmps61
            go_wp2_with fail
            refine Hz.out.mono ?_
            rintro e w1 ⟨rfl, hB⟩
            go_wp2_with fail
            go_ret2
            exact ⟨rfl, hB⟩
        · have t3 : ((r : Int) == 65279) = false := by simp; omega
          have hv : runeV r n i = ((r : Int), n) := by simp [runeV, c1, c4, c5]
          rw [hv]
          clear c2 hv c1 c4 c5
          go_enter Tryd.func61, Tryd.ntmps61
          go_wp2_with fail
          refine Hd.out.mono ?_
          rintro e w1 ⟨rfl, hB⟩
          go_wp2_with fail
          go_ret2
          exact ⟨rfl, hB⟩

set_option maxRecDepth 100000 in
set_option maxHeartbeats 400000 in
theorem skip_any (s : ByteArray) (w : World) :
    Calls Tryd.prog 46 #[.string s] w fun e w' => e = .returned (.int .i64 (if Lib.hasPrefix s.data.toList [239, 187, 191] then 3 else 0)) ∧ w = w' := by
  have hp := Tryd.strings_HasPrefix s ⟨#[239, 187, 191]⟩ w
  have Hp := Lib.hid hp
  clear hp
  cases h : Lib.hasPrefix s.data.toList [239, 187, 191] with
  | true =>
    go_enter Tryd.func46, Tryd.ntmps46
    go_wp2_with fail
    refine Hp.out.mono ?_
    rintro e w1 ⟨rfl, rfl⟩
    rw [h]
    go_wp2_with fail
    go_ret
    exact ⟨rfl, rfl⟩
  | false =>
    go_enter Tryd.func46, Tryd.ntmps46
    go_wp2_with fail
    refine Hp.out.mono ?_
    rintro e w1 ⟨rfl, rfl⟩
    rw [h]
    go_wp2_with fail
    go_ret
    exact ⟨rfl, rfl⟩

theorem dec_e9 : runeAt ⟨#[195, 169]⟩ 0 = (233, 2) := by decide +kernel

end Go.Proofs.YtejogobhnbjpdaaDoor
