/- Walks: Dir, Base and Under of both. -/
import Derived.Test.YthgbclgdaaaefaaDoorMb
import Derived.Test.YthgbclgdaaaefaaDoorWe
namespace Go.Proofs.YthgbclgdaaaefaaDoor
set_option linter.unusedVariables false
open Go.ChangeShapes Go.WideShapes Go.ChangeAt Go.RowKit

theorem last_any (s : ByteArray) (w : World) (hs : s.size ≤ 1073741824) : Calls Tryd.prog 32 #[.string s, .string ⟨#[47]⟩] w fun e w' => e = .returned (.int .i64 (lastB s)) ∧ w = w' := by
  refine (Tryd.strings_LastIndex_one s ⟨#[47]⟩ rfl (by omega) w).mono ?_
  rintro e w' ⟨rfl, rfl⟩
  exact ⟨rfl, rfl⟩
theorem dir_any (s : ByteArray) (w : World) (hs : s.size ≤ 1073741824) : Calls Tryd.prog 15 #[.string s] w fun e w' => e = .returned (.string (dirB s)) ∧ w = w' := by
  have H := fun w1 => last_any s w1 hs
  rcases last_cases s with ⟨h1, h2⟩ | ⟨a, b, hp, hb, hl⟩
  · have hd := Lib.hid (show dirB s = s.extract 0 0 by unfold dirB; rw [h1]; rfl)
    rw [h1] at H
    have HL := Lib.hid H
    clear H h1 h2
    go_enter Tryd.func15, Tryd.ntmps15
    go_wp2_with fail
    refine (HL.out _).mono ?_
    rintro e w1 ⟨rfl, rfl⟩
    go_wp2_with fail
    go_ret
    exact ⟨by rw [hd.out]; rfl, rfl⟩
  · have hd := Lib.hid (show dirB s = s.extract 0 a.size by unfold dirB; rw [hl]; rfl)
    rw [hl] at H
    have HL := Lib.hid H
    have hle : a.size ≤ s.size := by rw [hp, app_size, app_size]; omega
    have hleI : (0 : Int) ≤ (a.size : Int) := by omega
    clear H hp hb hl
    generalize a.size = i at *
    go_enter Tryd.func15, Tryd.ntmps15
    go_wp2_with fail
    refine (HL.out _).mono ?_
    rintro e w1 ⟨rfl, rfl⟩
    go_wp2_with fail
    go_ret
    exact ⟨by rw [hd.out]; rfl, rfl⟩
theorem base_any (s : ByteArray) (w : World) (hs : s.size ≤ 1073741824) : Calls Tryd.prog 17 #[.string s] w fun e w' => e = .returned (.string (baseB s)) ∧ w = w' := by
  have H := fun w1 => last_any s w1 hs
  rcases last_cases s with ⟨h1, h2⟩ | ⟨a, b, hp, hb, hl⟩
  · have hd := Lib.hid (base_none h1)
    rw [h1] at H
    have HL := Lib.hid H
    clear H h1 h2
    go_enter Tryd.func17, Tryd.ntmps17
    go_wp2_with fail
    refine (HL.out _).mono ?_
    rintro e w1 ⟨rfl, rfl⟩
    go_wp2_with fail
    go_ret
    exact ⟨by rw [hd.out]; rfl, rfl⟩
  · have hd := Lib.hid (show baseB s = s.extract (a.size + 1) s.size by unfold baseB; rw [hl]; rfl)
    rw [hl] at H
    have HL := Lib.hid H
    have hle : a.size + 1 ≤ s.size := by rw [hp, app_size, app_size]; show _ ≤ a.size + 1 + b.size; omega
    clear H hp hb hl
    generalize a.size = i at *
    go_enter Tryd.func17, Tryd.ntmps17
    go_wp2_with fail
    refine (HL.out _).mono ?_
    rintro e w1 ⟨rfl, rfl⟩
    go_wp2_with fail
    go_ret
    exact ⟨by rw [hd.out]; rfl, rfl⟩

theorem last_step (s : ByteArray) (k : Nat) (h : k < s.size) : Lib.lastIdx s 47 (k + 1) = if ((s[k].toNat : Int) == 47) then (k : Int) else Lib.lastIdx s 47 k := by
  rw [Lib.lastIdx, byte_at s k h]
  by_cases e : ((s[k].toNat : Int)) = 47
  · rw [if_pos e, if_pos (by rw [e]; rfl)]
  · rw [if_neg e, if_neg (by rw [beq_iff_eq]; exact e)]
theorem refDir_any (s : ByteArray) (w : World) (hs : s.size ≤ 1073741824) : Calls Tryd.prog 16 #[.string s] w fun e w' => e = .returned (.string (dirB s)) ∧ w = w' := by
  have Hd := Lib.hid (show dirB s = s.extract 0 (Lib.lastIdx s 47 s.size).toNat from rfl)
  generalize dirB s = d at *
  go_enter Tryd.func16, Tryd.ntmps16
  go_wp2_with fail
  go_loopg [3] (s.size + 1) (fun g iv wr => ∃ n : Nat, n + 1 = g ∧ n ≤ s.size ∧ iv = .int .i64 ((n : Int) - 1) ∧ Lib.lastIdx s 47 s.size = Lib.lastIdx s 47 n ∧ w = wr)
  case atStart => exact ⟨s.size, by omega, by omega, rfl, rfl, rfl⟩
  case round =>
    obtain ⟨n, hng, hns, rfl, hl, rfl⟩ := hrel
    have Hl := Lib.hid hl
    clear hl
    cases n with
    | zero =>
      have h1 : ¬ (0 : Int) ≤ ((0 : Nat) : Int) - 1 := by omega
      have hx := Lib.hid (show d = ⟨#[]⟩ by rw [Hd.out, Hl.out]; apply ba_ext; rw [Lib.extract_data]; simp [Lib.lastIdx])
      go_wp2_with fail
      go_ret
      exact ⟨by rw [hx.out]; rfl, rfl⟩
    | succ k =>
      have hk : k < s.size := by omega
      have hst := last_step s k hk
      have e1 : ((k + 1 : Nat) : Int) - 1 = (k : Int) := by omega
      rw [e1]
      cases h2 : ((s[k].toNat : Int) == 47) with
      | true =>
        rw [h2] at hst
        have hx := Lib.hid (show d = s.extract 0 k by rw [Hd.out, Hl.out, hst]; rfl)
        clear hst
        go_wp2_with fail
        go_ret
        exact ⟨by rw [hx.out]; rfl, rfl⟩
      | false =>
        rw [h2] at hst
        have hx := Lib.hid (show Lib.lastIdx s 47 s.size = Lib.lastIdx s 47 k by rw [Hl.out, hst]; rfl)
        clear hst
        go_wp2_with fail
        go_roundg (gk - 1)
        case measure => omega
        case rel => exact ⟨k, by omega, by omega, by go_num, hx.out, rfl⟩
theorem refBase_any (s : ByteArray) (w : World) (hs : s.size ≤ 1073741824) : Calls Tryd.prog 18 #[.string s] w fun e w' => e = .returned (.string (baseB s)) ∧ Below w.heap.size w w' := by
  have HP := Lib.hid (parts_own s w hs)
  have Hb := Lib.hid (base_last s)
  have hp := cutB_ne 47 s
  have hln := cnt_len (cutB 47 s)
  rw [cutB_cnt] at hln
  generalize baseB s = d at *
  generalize cutB 47 s = L at *
  go_enter Tryd.func18, Tryd.ntmps18
  go_wp2_with fail
  refine HP.out.mono ?_
  rintro e w1 ⟨v, rfl, hv, hB⟩
  obtain ⟨g, cap, rfl, hg, hgs, hcap, hmax, hcell⟩ := row_cells hv hp
  have hc := hcell (L.length - 1) (by omega)
  rw [Hb.out] at hc
  clear hcell hv
  generalize L.length = n at *
  go_wp2_with fail
  go_ret
  exact ⟨rfl, hB⟩
end Go.Proofs.YthgbclgdaaaefaaDoor
