/- Walks: the document's blanks, Trim, Words, keyword, path, fault, wrong; Walks: the document's Words, keyword, fault, wrong; Walks: the document's path, Spec; Walks: the document's Spec. -/
import Derived.Test.YtejogobhnbjpdaaGreatDoorU2
import Derived.Test.YtejogobhnbjpdaaGreatDoorUa
import Derived.Test.YtejogobhnbjpdaaGreatDoorLd
import Derived.Test.YtejogobhnbjpdaaGreatDoorV1
namespace Go.Proofs.YtejogobhnbjpdaaGreatDoor
set_option linter.unusedVariables false
set_option linter.unusedSimpArgs false
open Go.ChangeShapes Go.WideShapes Go.ChangeAt Go.RowKit

theorem thin_any (c : UInt8) (w : World) : Calls Tryz.prog 34 #[.int .u8 c.toNat] w fun e w' => e = .returned (.bool (thinN c.toNat)) ∧ w = w' := by
  have hlt := c.toNat_lt
  generalize c.toNat = n at *
  have k1 : ((n : Int) == 32) = decide (n = 32) := int_eqb n 32
  have k2 : ((n : Int) == 9) = decide (n = 9) := int_eqb n 9
  have k3 : ((n : Int) == 13) = decide (n = 13) := int_eqb n 13
  have e : thinN n = (decide (n = 32) || (decide (n = 9) || decide (n = 13))) := by
    unfold thinN
    by_cases h1 : n = 32 <;> by_cases h2 : n = 9 <;> by_cases h3 : n = 13 <;> simp_all
  rw [e]
  by_cases h1 : n = 32
  · rw [decide_eq_true h1] at k1 ⊢
    clear h1 e k2 k3
    go_enter Tryz.func34, Tryz.ntmps34
    go_wp2_with fail
    go_ret
    exact ⟨rfl, rfl⟩
  rw [decide_eq_false h1] at k1 ⊢
  by_cases h2 : n = 9
  · rw [decide_eq_true h2] at k2 ⊢
    clear h1 h2 e k3
    go_enter Tryz.func34, Tryz.ntmps34
    go_wp2_with fail
    go_ret
    exact ⟨rfl, rfl⟩
  rw [decide_eq_false h2] at k2 ⊢
  generalize decide (n = 13) = b3 at *
  clear h1 h2 e
  go_enter Tryz.func34, Tryz.ntmps34
  go_wp2_with fail
  go_ret
  exact ⟨rfl, rfl⟩
theorem ext_tail (s : ByteArray) (i e : Nat) (he : e ≤ s.size) (hi : i < e) : (s.extract i e).extract 1 (s.extract i e).size = s.extract (i + 1) e := by
  apply ba_ext
  have hz : (s.extract i e).size = e - i := by rw [ByteArray.size_extract]; omega
  rw [hz, Lib.extract_data, Lib.extract_data, Lib.extract_data, List.drop_take, List.drop_drop, List.take_take]
  congr 1
  omega
theorem ext_head (s : ByteArray) (i e : Nat) (he : e ≤ s.size) (hi : i < e) : (s.extract i e).extract 0 ((s.extract i e).size - 1) = s.extract i (e - 1) := by
  apply ba_ext
  have hz : (s.extract i e).size = e - i := by rw [ByteArray.size_extract]; omega
  rw [hz, Lib.extract_data, Lib.extract_data, Lib.extract_data, List.drop_zero, List.take_take]
  congr 1
  omega
theorem trimB_of {s : ByteArray} {i e : Nat} (hie : i ≤ e) (he : e ≤ s.size) (h1 : ∀ j, j < i → thinN (byt s j) = true) (h2 : ∀ j, e ≤ j → j < s.size → thinN (byt s j) = true)
    (h3 : i = e ∨ (i < e ∧ thinN (byt s i) = false ∧ thinN (byt s (e - 1)) = false)) : trimB s = s.extract i e := by
  have hget : ∀ (j : Nat) b, s.data.toList[j]? = some b → j < s.size ∧ b.toNat = byt s j := fun j b hb => by
    have hjl : j < s.size := by have := (List.getElem?_eq_some_iff.1 hb).1; simpa using this
    rw [byt_list hjl] at hb
    injection hb with hb
    exact ⟨hjl, by rw [← hb]; rfl⟩
  have hlen : s.data.toList.length = s.size := (Lib.size_eq s).symm
  apply ba_ext
  show Lib.trimS s.data.toList [32, 9, 13] = _
  rcases h3 with h3 | ⟨hlt, h3, h4⟩
  · subst h3
    have : Lib.trimS s.data.toList [32, 9, 13] = [] := by
      rw [trim_nil, mem_byt]
      intro j hj
      rw [thinN_u8]
      rcases Nat.lt_or_ge j i with h | h
      · exact h1 j h
      · exact h2 j h hj
    rw [this, Lib.extract_data, Nat.sub_self, List.take_zero]
  · unfold Lib.trimS
    rw [Lib.trimRightS_take _ _ e (by omega) (fun j b hj hb => by
      obtain ⟨g1, g2⟩ := hget j b hb
      rw [thinN_u8, g2]; exact h2 j hj g1) (fun b h0 hb => by
      obtain ⟨g1, g2⟩ := hget _ b hb
      rw [thinN_u8, g2]; exact h4)]
    rw [Lib.trimLeftS_drop _ _ i (by rw [List.length_take]; omega) (fun j b hj hb => by
      rw [List.getElem?_take, if_pos (by omega)] at hb
      obtain ⟨g1, g2⟩ := hget _ b hb
      rw [thinN_u8, g2]; exact h1 j hj) (fun b hb => by
      rw [List.getElem?_take, if_pos hlt] at hb
      obtain ⟨g1, g2⟩ := hget _ b hb
      rw [thinN_u8, g2]; exact h3)]
    rw [Lib.extract_data, List.drop_take]
set_option maxRecDepth 100000 in
set_option maxHeartbeats 2000000 in
theorem dtrim_any (s : ByteArray) (w : World) (hs : s.size ≤ 1048576) : Calls Tryz.prog 35 #[.string s] w fun e w' => e = .returned (.string (trimB s)) ∧ w = w' := by
  have HT := Lib.hid (fun c w1 => thin_any c w1)
  have HR := Lib.hid (fun i e h1 h2 h3 h4 h5 => trimB_of (s := s) (i := i) (e := e) h1 h2 h3 h4 h5)
  obtain ⟨ans, hans⟩ : ∃ ans, trimB s = ans := ⟨_, rfl⟩
  have Hans := Lib.hid hans
  rw [hans]
  clear hans
  go_enter Tryz.func35, Tryz.ntmps35
  go_wp2_with fail
  go_loopg [0] s.size (fun g a wr => ∃ i : Nat, i + g = s.size ∧ a = .string (s.extract i s.size) ∧ Hid (∀ j, j < i → thinN (byt s j) = true) ∧ w = wr)
  case atStart => exact ⟨0, by omega, by rw [ext_all], Lib.hid (fun j hj => by omega), rfl⟩
  case round =>
    obtain ⟨i, hig, rfl, HI, rfl⟩ := hrel
    have hz : (s.extract i s.size).size = s.size - i := by rw [ByteArray.size_extract]; omega
    by_cases hi : i < s.size ∧ thinN (byt s i) = true
    · have htl := Lib.hid (ext_tail s i s.size (Nat.le_refl _) hi.1)
      have hb0 : byt (s.extract i s.size) 0 = byt s i := by rw [byt_sub (Nat.le_refl _) (by omega), Nat.add_zero]
      have hI2 := Lib.hid (show ∀ j, j < i + 1 → thinN (byt s j) = true from fun j hj => by
        rcases Nat.lt_or_ge j i with h | h
        · exact HI.out j h
        · rw [show j = i by omega]; exact hi.2)
      generalize s.extract i s.size = t at *
      have h0 : 0 < t.size := by omega
      have h0I : (0 : Int) < (t.size : Int) := by omega
      have h1I : (1 : Int) ≤ (t.size : Int) := by omega
      obtain ⟨x, hx⟩ : ∃ x, t[0]'h0 = x := ⟨_, rfl⟩
      have hxt : thinN x.toNat = true := by
        have : x.toNat = byt t 0 := by rw [← hx]; unfold byt; rw [get_is t 0 h0]
        rw [this, hb0]; exact hi.2
      have HX := Lib.hid (fun w1 => HT.out x w1)
      rw [hxt] at HX
      clear hxt hb0
      obtain ⟨hi1, _⟩ := hi
      go_wp2_with fail
      refine (HX.out _).mono ?_
      rintro r w1 ⟨rfl, rfl⟩
      go_wp2_with fail
      go_roundg (gk - 1)
      case measure => omega
      case rel => exact ⟨i + 1, by omega, congrArg Value.string (by rw [← hz]; exact htl.out), hI2, rfl⟩
    have hi0 : i = s.size ∨ (i < s.size ∧ thinN (byt s i) = false) := by
      rcases Nat.lt_or_ge i s.size with h | h
      · right
        refine ⟨h, ?_⟩
        rw [← Bool.not_eq_true]
        exact fun h2 => hi ⟨h, h2⟩
      · left; omega
    have HI0 := Lib.hid hi0
    clear hi
    rcases hi0 with h0 | ⟨h0, hth⟩
    · have hzz : ¬ (0 : Int) < ((s.extract i s.size).size : Int) := by omega
      have hle : s.size ≤ i := by omega
      clear h0
      go_wp2_with fail
      clear hzz hz
      go_loopg [0] (s.size - i) (fun g a wr => ∃ e : Nat, i + g = e ∧ e ≤ s.size ∧ a = .string (s.extract i e) ∧ Hid (∀ j, e ≤ j → j < s.size → thinN (byt s j) = true) ∧ w = wr)
      case atStart => exact ⟨s.size, by omega, by omega, rfl, Lib.hid (fun j h1 h2 => by omega), rfl⟩
      case round =>
        obtain ⟨e, hig, hes, rfl, HE, rfl⟩ := hrel
        have hz : (s.extract i e).size = e - i := by rw [ByteArray.size_extract]; omega
        have hres := Lib.hid (show ans = s.extract i e from by
          rw [← Hans.out]
          exact HR.out i e (by omega) hes HI.out HE.out (.inl (by omega)))
        have hzz : ¬ (0 : Int) < ((s.extract i e).size : Int) := by omega
        go_wp2_with fail
        go_ret
        exact ⟨by rw [hres.out]; rfl, rfl⟩
    · have hb0 : byt (s.extract i s.size) 0 = byt s i := by rw [byt_sub (Nat.le_refl _) (by omega), Nat.add_zero]
      have hx0 : ∃ x : UInt8, ∃ h : 0 < (s.extract i s.size).size, (s.extract i s.size)[0]'h = x ∧ thinN x.toNat = false := by
        refine ⟨_, by omega, rfl, ?_⟩
        have hh : 0 < (s.extract i s.size).size := by omega
        have : ((s.extract i s.size)[0]'hh).toNat = byt (s.extract i s.size) 0 := by unfold byt; rw [get_is _ 0 hh]
        rw [this, hb0]; exact hth
      obtain ⟨x, hh, hx, hxt⟩ := hx0
      have h0I : (0 : Int) < ((s.extract i s.size).size : Int) := by omega
      have HX := Lib.hid (fun w1 => HT.out x w1)
      rw [hxt] at HX
      clear hxt hb0
      go_wp2_with fail
      refine (HX.out _).mono ?_
      rintro r w1 ⟨rfl, rfl⟩
      go_wp2_with fail
      clear h0I hx hh hz hth
      go_loopg [0] (s.size - i) (fun g a wr => ∃ e : Nat, i + g = e ∧ e ≤ s.size ∧ a = .string (s.extract i e) ∧ Hid (∀ j, e ≤ j → j < s.size → thinN (byt s j) = true) ∧ w = wr)
      case atStart => exact ⟨s.size, by omega, by omega, rfl, Lib.hid (fun j h1 h2 => by omega), rfl⟩
      case round =>
        obtain ⟨e, hig, hes, rfl, HE, rfl⟩ := hrel
        have hz : (s.extract i e).size = e - i := by rw [ByteArray.size_extract]; omega
        by_cases he : i < e ∧ thinN (byt s (e - 1)) = true
        · have htl := ext_head s i e hes he.1
          rw [hz] at htl
          have htl := Lib.hid htl
          have hb0 : byt (s.extract i e) (e - i - 1) = byt s (e - 1) := by rw [byt_sub hes (by omega)]; congr 1; omega
          have hE2 := Lib.hid (show ∀ j, e - 1 ≤ j → j < s.size → thinN (byt s j) = true from fun j h1 h2 => by
            rcases Nat.lt_or_ge j e with h | h
            · rw [show j = e - 1 by omega]; exact he.2
            · exact HE.out j h h2)
          generalize s.extract i e = t at *
          have h0 : e - i - 1 < t.size := by omega
          have h0I : (0 : Int) < (t.size : Int) := by omega
          have h1I : ((t.size : Int) - 1) = ((e - i - 1 : Nat) : Int) := by omega
          obtain ⟨x, hx⟩ : ∃ x, t[e - i - 1]'h0 = x := ⟨_, rfl⟩
          have hxt : thinN x.toNat = true := by
            have : x.toNat = byt t (e - i - 1) := by rw [← hx]; unfold byt; rw [get_is t _ h0]
            rw [this, hb0]; exact he.2
          have HX := Lib.hid (fun w1 => HT.out x w1)
          rw [hxt] at HX
          clear hxt hb0
          obtain ⟨he1, _⟩ := he
          go_wp2_with fail
          refine (HX.out _).mono ?_
          rintro r w1 ⟨rfl, rfl⟩
          go_wp2_with fail
          go_roundg (gk - 1)
          case measure => omega
          case rel => exact ⟨e - 1, by omega, by omega, by first | rw [htl.out] | rfl, hE2, rfl⟩
        have hres := Lib.hid (show ans = s.extract i e from by
          rw [← Hans.out]
          refine HR.out i e (by omega) hes HI.out HE.out ?_
          rcases Nat.eq_or_lt_of_le (show i ≤ e by omega) with h | h
          · exact .inl h
          · right
            refine ⟨h, ?_, ?_⟩
            · rcases HI0.out with h2 | h2
              · omega
              · exact h2.2
            · rw [← Bool.not_eq_true]; exact fun h2 => he ⟨h, h2⟩)
        by_cases hlt : i < e
        · have hxf : thinN (byt s (e - 1)) = false := by rw [← Bool.not_eq_true]; exact fun h2 => he ⟨hlt, h2⟩
          have hb0 : byt (s.extract i e) (e - i - 1) = byt s (e - 1) := by rw [byt_sub hes (by omega)]; congr 1; omega
          generalize s.extract i e = t at *
          have h0 : e - i - 1 < t.size := by omega
          have h0I : (0 : Int) < (t.size : Int) := by omega
          have h1I : ((t.size : Int) - 1) = ((e - i - 1 : Nat) : Int) := by omega
          obtain ⟨x, hx⟩ : ∃ x, t[e - i - 1]'h0 = x := ⟨_, rfl⟩
          have hxt : thinN x.toNat = false := by
            have : x.toNat = byt t (e - i - 1) := by rw [← hx]; unfold byt; rw [get_is t _ h0]
            rw [this, hb0]; exact hxf
          have HX := Lib.hid (fun w1 => HT.out x w1)
          rw [hxt] at HX
          clear hxt hb0 he hxf
          go_wp2_with fail
          refine (HX.out _).mono ?_
          rintro r w1 ⟨rfl, rfl⟩
          go_wp2_with fail
          go_ret
          exact ⟨by rw [hres.out]; rfl, rfl⟩
        · have hzz : ¬ (0 : Int) < ((s.extract i e).size : Int) := by omega
          clear he
          go_wp2_with fail
          go_ret
          exact ⟨by rw [hres.out]; rfl, rfl⟩
end Go.Proofs.YtejogobhnbjpdaaGreatDoor
namespace Go.Proofs.YtejogobhnbjpdaaGreatDoor
set_option linter.unusedVariables false
set_option linter.unusedSimpArgs false
open Go.ChangeShapes Go.WideShapes Go.ChangeAt Go.RowKit

theorem pre_is {s p : ByteArray} : Lib.hasPrefix s.data.toList p.data.toList = true ↔ p.size ≤ s.size ∧ s.extract 0 p.size = p := by
  have := pre_ext (s := s) (q := 0) (Nat.zero_le _) p.data.toList
  unfold pre at this
  rw [List.drop_zero, Nat.zero_add, ← Lib.size_eq] at this
  rw [this]
  constructor
  · rintro ⟨h1, h2⟩; exact ⟨h1, ba_ext h2⟩
  · rintro ⟨h1, h2⟩; exact ⟨h1, by rw [h2]⟩
theorem cut_is {s p : ByteArray} (h : Lib.hasPrefix s.data.toList p.data.toList = true) : cutB s p = s.extract p.size s.size := by
  apply ba_ext
  show Lib.trimPrefix s.data.toList p.data.toList = _
  unfold Lib.trimPrefix
  rw [if_pos h, Lib.extract_data, ← Lib.size_eq, List.take_of_length_le]
  rw [List.length_drop, ← Lib.size_eq]; exact Nat.le_refl _
theorem dirR_no {s p : ByteArray} (h : ¬ (p.size ≤ s.size ∧ s.extract 0 p.size = p)) : dirR s p = (⟨#[]⟩, false) := by
  unfold dirR
  rw [if_neg (fun k => h (pre_is.1 k))]
theorem dirR_end {s p : ByteArray} (h1 : p.size ≤ s.size) (h2 : s.extract 0 p.size = p) (h3 : ¬ p.size < s.size) : dirR s p = (trimB (s.extract p.size s.size), true) := by
  have hp := pre_is.2 ⟨h1, h2⟩
  have hc := cut_is hp
  unfold dirR
  rw [if_pos hp, dif_neg, hc]
  rw [hc, ByteArray.size_extract]; omega
theorem dirR_at {s p : ByteArray} (h1 : p.size ≤ s.size) (h2 : s.extract 0 p.size = p) (h3 : p.size < s.size) : dirR s p = if s[p.size] = 32 ∨ s[p.size] = 9 then (trimB (s.extract p.size s.size), true) else (⟨#[]⟩, false) := by
  have hp := pre_is.2 ⟨h1, h2⟩
  have hc := cut_is hp
  have hz : (s.extract p.size s.size).size = s.size - p.size := by rw [ByteArray.size_extract]; omega
  have h0 : 0 < (cutB s p).size := by rw [hc, hz]; omega
  have hb : (cutB s p)[0]'h0 = s[p.size] := by
    apply UInt8.toNat_inj.1
    have e1 : ((cutB s p)[0]'h0).toNat = byt (cutB s p) 0 := by unfold byt; rw [get_is _ 0 h0]
    have e2 : (s[p.size]).toNat = byt s p.size := by unfold byt; rw [get_is _ _ h3]
    rw [e1, e2, hc, byt_sub (Nat.le_refl _) (by omega), Nat.add_zero]
  unfold dirR
  rw [if_pos hp, dif_pos h0, hb, hc]
set_option maxHeartbeats 2000000 in
theorem dwords_any (s p : ByteArray) (w : World) (hs : s.size ≤ 1048576) (hps : p.size ≤ 1048576) : Calls Tryz.prog 18 #[.string s, .string p] w fun e w' => e = .returned (.tuple #[.string (dirR s p).1, .bool (dirR s p).2]) ∧ w = w' := by
  have hke := str_eqb (s.extract 0 p.size) p
  by_cases h1 : s.size < p.size
  · have h1I : (s.size : Int) < (p.size : Int) := by omega
    rw [dirR_no (fun h => by omega)]
    clear hke
    go_enter Tryz.func18, Tryz.ntmps18
    go_wp2_with fail
    go_ret2
    exact ⟨rfl, rfl⟩
  have h1I : ¬ (s.size : Int) < (p.size : Int) := by omega
  have h1L : (p.size : Int) ≤ (s.size : Int) := by omega
  by_cases h2 : s.extract 0 p.size = p
  case neg =>
    rw [decide_eq_false h2] at hke
    have hkn := ne_of_eqb hke
    rw [dirR_no (fun h => h2 h.2)]
    clear h2
    go_enter Tryz.func18, Tryz.ntmps18
    go_wp2_with fail
    go_ret2
    exact ⟨rfl, rfl⟩
  rw [decide_eq_true h2] at hke
  have hkn := ne_of_eqb hke
  have HT := Lib.hid (fun w1 => dtrim_any (s.extract p.size s.size) w1 (Nat.le_trans (ext_size _ _ _) hs))
  by_cases h3 : p.size < s.size
  case neg =>
    have h3I : ¬ (p.size : Int) < (s.size : Int) := by omega
    rw [dirR_end (by omega) h2 h3]
    clear h2
    go_enter Tryz.func18, Tryz.ntmps18
    go_wp2_with fail
    refine (HT.out _).mono ?_
    rintro r w1 ⟨rfl, rfl⟩
    go_wp2_with fail
    go_ret2
    exact ⟨rfl, rfl⟩
  have h3I : (p.size : Int) < (s.size : Int) := by omega
  have HD := Lib.hid (dirR_at (by omega) h2 h3)
  obtain ⟨x, hx⟩ : ∃ x, s[p.size]'h3 = x := ⟨_, rfl⟩
  rw [hx] at HD
  have k1 : ((x.toNat : Int) == 32) = decide (x = 32) := u8_eqb x 32
  have k2 : ((x.toNat : Int) == 9) = decide (x = 9) := u8_eqb x 9
  clear h2
  by_cases h4 : x = 32
  · rw [decide_eq_true h4] at k1
    have k1n := ne_of_eqb k1
    rw [HD.out, if_pos (.inl h4)]
    clear h4 k2 HD
    go_enter Tryz.func18, Tryz.ntmps18
    go_wp2_with fail
    refine (HT.out _).mono ?_
    rintro r w1 ⟨rfl, rfl⟩
    go_wp2_with fail
    go_ret2
    exact ⟨rfl, rfl⟩
  rw [decide_eq_false h4] at k1
  have k1n := ne_of_eqb k1
  by_cases h5 : x = 9
  · rw [decide_eq_true h5] at k2
    have k2n := ne_of_eqb k2
    rw [HD.out, if_pos (.inr h5)]
    clear h4 h5 HD
    go_enter Tryz.func18, Tryz.ntmps18
    go_wp2_with fail
    refine (HT.out _).mono ?_
    rintro r w1 ⟨rfl, rfl⟩
    go_wp2_with fail
    go_ret2
    exact ⟨rfl, rfl⟩
  rw [decide_eq_false h5] at k2
  have k2n := ne_of_eqb k2
  rw [HD.out, if_neg (fun h => h.elim h4 h5)]
  clear h4 h5 HD
  go_enter Tryz.func18, Tryz.ntmps18
  go_wp2_with fail
  go_ret2
  exact ⟨rfl, rfl⟩
set_option maxHeartbeats 2000000 in
theorem dkey_any (x : ByteArray) (w : World) : Calls Tryz.prog 13 #[.string x] w fun e w' => e = .returned (.bool (keyB x)) ∧ Below w.heap.size w w' := by
  have HO := Lib.hid (fun w1 => open_any x w1)
  have e : keyB x = (((x.toList == ([98, 114, 101, 97, 107] : List UInt8)) || (x.toList == ([99, 111, 110, 116, 105, 110, 117, 101] : List UInt8)) || (x.toList == ([102, 97, 108, 108, 116, 104, 114, 111, 117, 103, 104] : List UInt8)) || (x.toList == ([114, 101, 116, 117, 114, 110] : List UInt8))) || joinsB x) := by
    unfold keyB kw4
    simp only [contains_or, List.contains_nil, Bool.or_false, Bool.or_assoc]
  rw [e]
  generalize joinsB x = j at *
  clear e
  obtain ⟨b0, h0⟩ : ∃ b, (x.toList == ([98, 114, 101, 97, 107] : List UInt8)) = b := ⟨_, rfl⟩
  obtain ⟨b1, h1⟩ : ∃ b, (x.toList == ([99, 111, 110, 116, 105, 110, 117, 101] : List UInt8)) = b := ⟨_, rfl⟩
  obtain ⟨b2, h2⟩ : ∃ b, (x.toList == ([102, 97, 108, 108, 116, 104, 114, 111, 117, 103, 104] : List UInt8)) = b := ⟨_, rfl⟩
  obtain ⟨b3, h3⟩ : ∃ b, (x.toList == ([114, 101, 116, 117, 114, 110] : List UInt8)) = b := ⟨_, rfl⟩
  rw [h0, h1, h2, h3]
  go_enter Tryz.func13, Tryz.ntmps13
  go_wp2_with fail
  refine (HO.out _).mono ?_
  rintro e w1 ⟨rfl, hB⟩
  have HB := Lib.hid hB
  clear hB
  go_wp2_with fail
  all_goals (try (first
    | (go_ret; refine ⟨?_, HB.out⟩; simp_all; done)
    | (exfalso; simp_all; done)))
/-- A header with a fault, in memory. -/
theorem fault_at {w : World} (f a : Nat) : HAt w (.agg #[.string ⟨#[]⟩, .slice none 0 0, .string ⟨#[]⟩, .slice none 0 0, .int .i64 f, .int .i64 a]) (.wrong f a) := ⟨_, _, rfl, zero_lat, zero_lat⟩
theorem size26 : (Tryz.prog.info? 26).map (·.size) = some 6 := by as_aux_lemma => kernel_rfl
theorem hret {F : Func} {k : Nat} (hr : F.results = #[.cell k 26]) {R : Ending → World → Prop} {ac : Act} {w : World} {g : Nat} {cs : Array Value} (hg : w.heap[g]? = some (.cells cs 26 (0, 0))) (h6 : cs.size = 6)
    (hp : ac.tmps.getD k undef = .pointer (some ⟨g, 0, none⟩)) (hd : ac.defers = []) (hR : R (.returned (.agg cs)) w) : bodyPost Tryz.prog F R .ret ac w :=
  bodyPost_ret (results_cell_row (fr := (0, 0)) hr _ _ g 26 _ _ hp hg Tryz.underlying26 rfl (by rw [h6]; exact size26)) hd hR
theorem dfault_any (f a : Nat) (w : World) : Calls Tryz.prog 16 #[.int .i64 f, .int .i64 a] w fun e w' => e = .returned (.agg #[.string ⟨#[]⟩, .slice none 0 0, .string ⟨#[]⟩, .slice none 0 0, .int .i64 f, .int .i64 a]) ∧ Below w.heap.size w w' := by
  have HN := Lib.hid (heap_alloc_new w (.cells #[.string ⟨#[]⟩, .slice none 0 0, .string ⟨#[]⟩, .slice none 0 0, .int .i64 f, .int .i64 a] 26))
  go_enter Tryz.func16, Tryz.ntmps16
  go_wp2_with fail
  exact hret rfl HN.out rfl rfl rfl ⟨rfl, (Below.refl _ _).alloc (Nat.le_refl _) _⟩
theorem hret6 {F : Func} {k : Nat} (hr : F.results = #[.cell k 26]) {R : Ending → World → Prop} {ac : Act} (w : World) (g : Nat) (a b c d e f p q r x y z : Value) (hg : w.heap[g]? = some (.cells #[a, b, c, d, e, f] 26 (0, 0)))
    (hp : ac.tmps.getD k undef = .pointer (some ⟨g, 0, none⟩)) (hd : ac.defers = []) (hR : R (.returned (.agg #[p, q, r, x, y, z])) (w.setRow g #[p, q, r, x, y, z])) :
    bodyPost Tryz.prog F R .ret ac ((((((w.setCell ⟨g, 0, none⟩ p).setCell ⟨g, 1, none⟩ q).setCell ⟨g, 2, none⟩ r).setCell ⟨g, 3, none⟩ x).setCell ⟨g, 4, none⟩ y).setCell ⟨g, 5, none⟩ z) := by
  rw [set6 w g _ _ _ _ _ _ p q r x y z _ _ hg]
  exact hret hr (setRow_heap _ _ _ _ _ _ hg) rfl hp hd hR
set_option maxHeartbeats 1000000 in
theorem dwrong_any (k : Nat) (x : ByteArray) (a f : Nat) (w : World) : Calls Tryz.prog 12 #[.agg #[.int .i64 k, .string x, .int .i64 a], .int .i64 f] w fun e w' => e = .returned (.agg #[.string ⟨#[]⟩, .slice none 0 0, .string ⟨#[]⟩, .slice none 0 0, .int .i64 (if k = 7 then 1 else f : Nat), .int .i64 a]) ∧ Below w.heap.size w w' := by
  have HF := Lib.hid (fun f' w1 => dfault_any f' a w1)
  have k7 : ((k : Int) == 7) = decide (k = 7) := int_eqb k 7
  have hq := heap_alloc_new w (.cells #[.int .i64 k, .string x, .int .i64 a] 35)
  have hB1 := (Below.refl w.heap.size w).alloc (Nat.le_refl _) (.cells #[.int .i64 k, .string x, .int .i64 a] 35)
  generalize hw1 : w.alloc (.cells #[.int .i64 k, .string x, .int .i64 a] 35) = w1 at *
  have hq2 := heap_alloc_new w1 (.cells #[.string ⟨#[]⟩, .slice none 0 0, .string ⟨#[]⟩, .slice none 0 0, .int .i64 0, .int .i64 0] 26)
  have hB2 := (Below.refl w1.heap.size w1).alloc (Nat.le_refl _) (.cells #[.string ⟨#[]⟩, .slice none 0 0, .string ⟨#[]⟩, .slice none 0 0, .int .i64 0, .int .i64 0] 26)
  have hs1 : w1.heap.size = w.heap.size + 1 := by rw [← hw1]; simp
  have hq3 := (hB2.block _ (lt_of_block hq)).trans hq
  have HB2 := Lib.hid (hB1.trans (hB2.mono hB1.size))
  have c0 := block_cell hq3 0
  have c2 := block_cell hq3 2
  have Hq := Lib.hid hq2
  have Hw1 := Lib.hid hw1
  clear hq hB1 hq2 hB2 hq3
  by_cases h7 : k = 7
  · rw [decide_eq_true h7] at k7
    rw [if_pos h7]
    clear h7
    go_enter Tryz.func12, Tryz.ntmps12
    go_wp2_with fail
    generalize w1.alloc (.cells #[.string ⟨#[]⟩, .slice none 0 0, .string ⟨#[]⟩, .slice none 0 0, .int .i64 0, .int .i64 0] 26) = w2 at *
    refine (HF.out 1 _).mono ?_
    rintro r w3 ⟨rfl, hB⟩
    have HB3 := Lib.hid (HB2.out.trans (hB.mono HB2.out.size))
    have hn3 := (hB.block _ (lt_of_block Hq.out)).trans Hq.out
    rw [hs1] at hn3
    have Hn3 := Lib.hid hn3
    have d0 := block_cell hn3 0
    have z0 := block_free hn3 0
    have d1 := block_cell hn3 1
    have z1 := block_free hn3 1
    have d2 := block_cell hn3 2
    have z2 := block_free hn3 2
    have d3 := block_cell hn3 3
    have z3 := block_free hn3 3
    have d4 := block_cell hn3 4
    have z4 := block_free hn3 4
    have d5 := block_cell hn3 5
    have z5 := block_free hn3 5
    clear hB hn3
    go_wp2_with fail
    refine hret6 rfl w3 (w.heap.size + 1) _ _ _ _ _ _ _ _ _ _ _ _ Hn3.out ?_ ?_ ?_
    · rfl
    · rfl
    exact ⟨rfl, below6 HB3.out Hn3.out (by omega) _ _ _ _ _ _⟩
  · rw [decide_eq_false h7] at k7
    rw [if_neg h7]
    clear h7
    go_enter Tryz.func12, Tryz.ntmps12
    go_wp2_with fail
    generalize w1.alloc (.cells #[.string ⟨#[]⟩, .slice none 0 0, .string ⟨#[]⟩, .slice none 0 0, .int .i64 0, .int .i64 0] 26) = w2 at *
    refine (HF.out f _).mono ?_
    rintro r w3 ⟨rfl, hB⟩
    have HB3 := Lib.hid (HB2.out.trans (hB.mono HB2.out.size))
    have hn3 := (hB.block _ (lt_of_block Hq.out)).trans Hq.out
    rw [hs1] at hn3
    have Hn3 := Lib.hid hn3
    have d0 := block_cell hn3 0
    have z0 := block_free hn3 0
    have d1 := block_cell hn3 1
    have z1 := block_free hn3 1
    have d2 := block_cell hn3 2
    have z2 := block_free hn3 2
    have d3 := block_cell hn3 3
    have z3 := block_free hn3 3
    have d4 := block_cell hn3 4
    have z4 := block_free hn3 4
    have d5 := block_cell hn3 5
    have z5 := block_free hn3 5
    clear hB hn3
    go_wp2_with fail
    refine hret6 rfl w3 (w.heap.size + 1) _ _ _ _ _ _ _ _ _ _ _ _ Hn3.out ?_ ?_ ?_
    · rfl
    · rfl
    exact ⟨rfl, below6 HB3.out Hn3.out (by omega) _ _ _ _ _ _⟩
end Go.Proofs.YtejogobhnbjpdaaGreatDoor
namespace Go.Proofs.YtejogobhnbjpdaaGreatDoor
set_option linter.unusedVariables false
set_option linter.unusedSimpArgs false
open Go.ChangeShapes Go.WideShapes Go.ChangeAt Go.RowKit

/-- Is a token a String whose text can be a path? -/
def isPath (k : Nat) (x : ByteArray) : Bool := decide (k = 4) && pathOk (mid x)
def pathS (k : Nat) (x : ByteArray) : ByteArray := if isPath k x = true then mid x else ⟨#[]⟩
theorem pathS_yes {k : Nat} {x : ByteArray} (h : isPath k x = true) : pathS k x = mid x := by unfold pathS; rw [if_pos h]
theorem pathS_no {k : Nat} {x : ByteArray} (h : isPath k x = false) : pathS k x = ⟨#[]⟩ := by unfold pathS; rw [if_neg (by rw [h]; decide)]
theorem bad_or (c : UInt8) (h : wAny.data.toList.contains c = true) : c = 92 ∨ c = 34 ∨ c = 39 ∨ c = 96 ∨ c = 32 ∨ c = 9 ∨ c = 13 ∨ c = 10 := by
  have h2 : c ∈ ([92, 34, 39, 96, 32, 9, 13, 10] : List UInt8) := List.contains_iff_mem.1 h
  simpa using h2
theorem bad_not (c : UInt8) (h : wAny.data.toList.contains c = false) : c ≠ 92 ∧ c ≠ 34 ∧ c ≠ 39 ∧ c ≠ 96 ∧ c ≠ 32 ∧ c ≠ 9 ∧ c ≠ 13 ∧ c ≠ 10 := by
  have h2 : ¬ c ∈ ([92, 34, 39, 96, 32, 9, 13, 10] : List UInt8) := fun k => by
    have := List.contains_iff_mem.2 k
    have h3 : wAny.data.toList.contains c = true := this
    rw [h] at h3; cases h3
  simpa using h2
theorem any_no {t : ByteArray} (h : Lib.NoAny t.data.toList wAny.data.toList t.size) : anyB t = false := by
  unfold anyB Lib.containsAny
  rw [Lib.indexAny_none (by rw [← Lib.size_eq]; exact h)]
  decide
theorem any_yes {t : ByteArray} {i : Nat} {x : UInt8} (h : Lib.NoAny t.data.toList wAny.data.toList i) (hx : t.data.toList[i]? = some x) (hc : wAny.data.toList.contains x = true) : anyB t = true := by
  unfold anyB Lib.containsAny
  rw [Lib.indexAny_hit h hx hc]
  exact decide_eq_true (by omega)
set_option maxRecDepth 100000 in
set_option maxHeartbeats 4000000 in
theorem dpath_any (k : Nat) (x : ByteArray) (a : Nat) (w : World) (hx : k = 4 → 2 ≤ x.size ∧ x.size ≤ 1048576) : Calls Tryz.prog 60 #[.agg #[.int .i64 k, .string x, .int .i64 a]] w fun e w' => e = .returned (.tuple #[.string (pathS k x), .bool (isPath k x)]) ∧ Below w.heap.size w w' := by
  have k4 : ((k : Int) == 4) = decide (k = 4) := int_eqb k 4
  have hq := heap_alloc_new w (.cells #[.int .i64 k, .string x, .int .i64 a] 35)
  have HB1 := Lib.hid ((Below.refl w.heap.size w).alloc (Nat.le_refl _) (.cells #[.int .i64 k, .string x, .int .i64 a] 35))
  generalize hw1 : w.alloc (.cells #[.int .i64 k, .string x, .int .i64 a] 35) = w1 at *
  have c0 := block_cell hq 0
  have c1 := block_cell hq 1
  have Hw1 := Lib.hid hw1
  clear hq
  by_cases h4 : k = 4
  case neg =>
    rw [decide_eq_false h4] at k4
    have k4n := ne_of_eqb k4
    have hp : isPath k x = false := by unfold isPath; rw [decide_eq_false h4]; rfl
    rw [pathS_no hp, hp]
    clear h4 hp hx hw1
    go_enter Tryz.func60, Tryz.ntmps60
    go_wp2_with fail
    rw [Hw1.out]
    go_wp2_with fail
    go_ret2
    exact ⟨rfl, HB1.out⟩
  obtain ⟨hx2, hxs⟩ := hx h4
  rw [decide_eq_true h4] at k4
  have k4n := ne_of_eqb k4
  have HP := Lib.hid (show isPath k x = pathOk (mid x) from by unfold isPath; rw [decide_eq_true h4]; rfl)
  clear h4 hx
  have e1 : (x.size : Int) - 1 = ((x.size - 1 : Nat) : Int) := by omega
  have e2 : (1 : Int) ≤ ((x.size - 1 : Nat) : Int) := by omega
  have e3 : ((x.size - 1 : Nat) : Int) ≤ (x.size : Int) := by omega
  have Hmid := Lib.hid (show mid x = x.extract 1 (x.size - 1) from rfl)
  have hmz : (x.extract 1 (x.size - 1)).size ≤ 1048576 := Nat.le_trans (ext_size _ _ _) hxs
  have HS := Lib.hid (show pathS k x = (if pathOk (x.extract 1 (x.size - 1)) = true then x.extract 1 (x.size - 1) else ⟨#[]⟩) from by unfold pathS; rw [HP.out, Hmid.out])
  rw [Hmid.out] at HP
  obtain ⟨ps, hps⟩ : ∃ ps, pathS k x = ps := ⟨_, rfl⟩
  obtain ⟨pb, hpb⟩ : ∃ pb, isPath k x = pb := ⟨_, rfl⟩
  rw [hps] at HS ⊢
  rw [hpb] at HP ⊢
  clear hps hpb
  go_enter Tryz.func60, Tryz.ntmps60
  go_wp2_with fail
  generalize x.extract 1 (x.size - 1) = t at *
  clear c0 c1 e1 e2 e3 hw1 Hmid
  go_loopg [5] t.size (fun g iv wr => ∃ i : Nat, i + g = t.size ∧ iv = .int .i64 i ∧ Hid (Lib.NoAny t.data.toList wAny.data.toList i) ∧ w1 = wr)
  case atStart => exact ⟨0, by omega, rfl, Lib.hid (Lib.NoAny.zero _ _), rfl⟩
  case round =>
    obtain ⟨i, hig, rfl, HN, rfl⟩ := hrel
    by_cases hi : i < t.size
    case neg =>
      have hiI : ¬ (i : Int) < (t.size : Int) := by omega
      have hany := any_no (t := t) (by rw [show t.size = i by omega]; exact HN.out)
      have hpo : pathOk t = decide (t ≠ ⟨#[]⟩) := by unfold pathOk; rw [hany]; simp
      have ke := str_lit t #[]
      have HE := Lib.hid (show t = ⟨#[]⟩ → ps = t ∧ pb = false from fun h => by
        have h2 : pathOk t = false := by rw [hpo, h]; rfl
        exact ⟨by rw [HS.out, if_neg (by rw [h2]; decide), h], by rw [HP.out, h2]⟩)
      have HF := Lib.hid (show ¬ t = ⟨#[]⟩ → ps = t ∧ pb = true from fun h => by
        have h2 : pathOk t = true := by rw [hpo]; exact decide_eq_true h
        exact ⟨by rw [HS.out, if_pos h2], by rw [HP.out, h2]⟩)
      clear hany hpo
      by_cases h0 : t = ⟨#[]⟩
      · have HEE := Lib.hid (HE.out h0)
        rw [decide_eq_true h0] at ke
        have ken := ne_of_eqb ke
        clear h0 HE HF
        go_wp2_with fail
        go_ret2
        exact ⟨by rw [HEE.out.1, HEE.out.2]; rfl, HB1.out⟩
      · have HEE := Lib.hid (HF.out h0)
        rw [decide_eq_false h0] at ke
        have ken := ne_of_eqb ke
        clear h0 HE HF
        go_wp2_with fail
        go_ret2
        exact ⟨by rw [HEE.out.1, HEE.out.2]; rfl, HB1.out⟩
    have hiI : (i : Int) < (t.size : Int) := by omega
    have hxl := Lib.data_getElem? t i hi
    have HX := Lib.hid hxl
    clear hxl
    have q92 : (((t[i]'hi).toNat : Int) == 92) = decide (t[i]'hi = 92) := u8_eqb (t[i]'hi) 92
    have q34 : (((t[i]'hi).toNat : Int) == 34) = decide (t[i]'hi = 34) := u8_eqb (t[i]'hi) 34
    have q39 : (((t[i]'hi).toNat : Int) == 39) = decide (t[i]'hi = 39) := u8_eqb (t[i]'hi) 39
    have q96 : (((t[i]'hi).toNat : Int) == 96) = decide (t[i]'hi = 96) := u8_eqb (t[i]'hi) 96
    have q32 : (((t[i]'hi).toNat : Int) == 32) = decide (t[i]'hi = 32) := u8_eqb (t[i]'hi) 32
    have q9 : (((t[i]'hi).toNat : Int) == 9) = decide (t[i]'hi = 9) := u8_eqb (t[i]'hi) 9
    have q13 : (((t[i]'hi).toNat : Int) == 13) = decide (t[i]'hi = 13) := u8_eqb (t[i]'hi) 13
    have q10 : (((t[i]'hi).toNat : Int) == 10) = decide (t[i]'hi = 10) := u8_eqb (t[i]'hi) 10
    cases hin : wAny.data.toList.contains (t[i]'hi) with
    | true =>
      have hany := any_yes HN.out HX.out hin
      have hpo : pathOk t = false := by unfold pathOk; rw [hany]; simp
      have HPO := Lib.hid (show ps = ⟨#[]⟩ ∧ pb = false from ⟨by rw [HS.out, if_neg (by rw [hpo]; decide)], by rw [HP.out, hpo]⟩)
      have hor := bad_or _ hin
      clear hany hpo hin
      rcases hor with h | h | h | h | h | h | h | h
      · rw [show decide (t[i]'hi = 92) = true from by rw [h]; decide] at q92
        rw [show decide (t[i]'hi = 34) = false from by rw [h]; decide] at q34
        rw [show decide (t[i]'hi = 39) = false from by rw [h]; decide] at q39
        rw [show decide (t[i]'hi = 96) = false from by rw [h]; decide] at q96
        rw [show decide (t[i]'hi = 32) = false from by rw [h]; decide] at q32
        rw [show decide (t[i]'hi = 9) = false from by rw [h]; decide] at q9
        rw [show decide (t[i]'hi = 13) = false from by rw [h]; decide] at q13
        rw [show decide (t[i]'hi = 10) = false from by rw [h]; decide] at q10
        clear h
        go_wp2_with fail
        go_ret2
        exact ⟨by rw [HPO.out.1, HPO.out.2]; rfl, HB1.out⟩
      · rw [show decide (t[i]'hi = 92) = false from by rw [h]; decide] at q92
        rw [show decide (t[i]'hi = 34) = true from by rw [h]; decide] at q34
        rw [show decide (t[i]'hi = 39) = false from by rw [h]; decide] at q39
        rw [show decide (t[i]'hi = 96) = false from by rw [h]; decide] at q96
        rw [show decide (t[i]'hi = 32) = false from by rw [h]; decide] at q32
        rw [show decide (t[i]'hi = 9) = false from by rw [h]; decide] at q9
        rw [show decide (t[i]'hi = 13) = false from by rw [h]; decide] at q13
        rw [show decide (t[i]'hi = 10) = false from by rw [h]; decide] at q10
        clear h
        go_wp2_with fail
        go_ret2
        exact ⟨by rw [HPO.out.1, HPO.out.2]; rfl, HB1.out⟩
      · rw [show decide (t[i]'hi = 92) = false from by rw [h]; decide] at q92
        rw [show decide (t[i]'hi = 34) = false from by rw [h]; decide] at q34
        rw [show decide (t[i]'hi = 39) = true from by rw [h]; decide] at q39
        rw [show decide (t[i]'hi = 96) = false from by rw [h]; decide] at q96
        rw [show decide (t[i]'hi = 32) = false from by rw [h]; decide] at q32
        rw [show decide (t[i]'hi = 9) = false from by rw [h]; decide] at q9
        rw [show decide (t[i]'hi = 13) = false from by rw [h]; decide] at q13
        rw [show decide (t[i]'hi = 10) = false from by rw [h]; decide] at q10
        clear h
        go_wp2_with fail
        go_ret2
        exact ⟨by rw [HPO.out.1, HPO.out.2]; rfl, HB1.out⟩
      · rw [show decide (t[i]'hi = 92) = false from by rw [h]; decide] at q92
        rw [show decide (t[i]'hi = 34) = false from by rw [h]; decide] at q34
        rw [show decide (t[i]'hi = 39) = false from by rw [h]; decide] at q39
        rw [show decide (t[i]'hi = 96) = true from by rw [h]; decide] at q96
        rw [show decide (t[i]'hi = 32) = false from by rw [h]; decide] at q32
        rw [show decide (t[i]'hi = 9) = false from by rw [h]; decide] at q9
        rw [show decide (t[i]'hi = 13) = false from by rw [h]; decide] at q13
        rw [show decide (t[i]'hi = 10) = false from by rw [h]; decide] at q10
        clear h
        go_wp2_with fail
        go_ret2
        exact ⟨by rw [HPO.out.1, HPO.out.2]; rfl, HB1.out⟩
      · rw [show decide (t[i]'hi = 92) = false from by rw [h]; decide] at q92
        rw [show decide (t[i]'hi = 34) = false from by rw [h]; decide] at q34
        rw [show decide (t[i]'hi = 39) = false from by rw [h]; decide] at q39
        rw [show decide (t[i]'hi = 96) = false from by rw [h]; decide] at q96
        rw [show decide (t[i]'hi = 32) = true from by rw [h]; decide] at q32
        rw [show decide (t[i]'hi = 9) = false from by rw [h]; decide] at q9
        rw [show decide (t[i]'hi = 13) = false from by rw [h]; decide] at q13
        rw [show decide (t[i]'hi = 10) = false from by rw [h]; decide] at q10
        clear h
        go_wp2_with fail
        go_ret2
        exact ⟨by rw [HPO.out.1, HPO.out.2]; rfl, HB1.out⟩
      · rw [show decide (t[i]'hi = 92) = false from by rw [h]; decide] at q92
        rw [show decide (t[i]'hi = 34) = false from by rw [h]; decide] at q34
        rw [show decide (t[i]'hi = 39) = false from by rw [h]; decide] at q39
        rw [show decide (t[i]'hi = 96) = false from by rw [h]; decide] at q96
        rw [show decide (t[i]'hi = 32) = false from by rw [h]; decide] at q32
        rw [show decide (t[i]'hi = 9) = true from by rw [h]; decide] at q9
        rw [show decide (t[i]'hi = 13) = false from by rw [h]; decide] at q13
        rw [show decide (t[i]'hi = 10) = false from by rw [h]; decide] at q10
        clear h
        go_wp2_with fail
        go_ret2
        exact ⟨by rw [HPO.out.1, HPO.out.2]; rfl, HB1.out⟩
      · rw [show decide (t[i]'hi = 92) = false from by rw [h]; decide] at q92
        rw [show decide (t[i]'hi = 34) = false from by rw [h]; decide] at q34
        rw [show decide (t[i]'hi = 39) = false from by rw [h]; decide] at q39
        rw [show decide (t[i]'hi = 96) = false from by rw [h]; decide] at q96
        rw [show decide (t[i]'hi = 32) = false from by rw [h]; decide] at q32
        rw [show decide (t[i]'hi = 9) = false from by rw [h]; decide] at q9
        rw [show decide (t[i]'hi = 13) = true from by rw [h]; decide] at q13
        rw [show decide (t[i]'hi = 10) = false from by rw [h]; decide] at q10
        clear h
        go_wp2_with fail
        go_ret2
        exact ⟨by rw [HPO.out.1, HPO.out.2]; rfl, HB1.out⟩
      · rw [show decide (t[i]'hi = 92) = false from by rw [h]; decide] at q92
        rw [show decide (t[i]'hi = 34) = false from by rw [h]; decide] at q34
        rw [show decide (t[i]'hi = 39) = false from by rw [h]; decide] at q39
        rw [show decide (t[i]'hi = 96) = false from by rw [h]; decide] at q96
        rw [show decide (t[i]'hi = 32) = false from by rw [h]; decide] at q32
        rw [show decide (t[i]'hi = 9) = false from by rw [h]; decide] at q9
        rw [show decide (t[i]'hi = 13) = false from by rw [h]; decide] at q13
        rw [show decide (t[i]'hi = 10) = true from by rw [h]; decide] at q10
        clear h
        go_wp2_with fail
        go_ret2
        exact ⟨by rw [HPO.out.1, HPO.out.2]; rfl, HB1.out⟩
    | false =>
      have hn := bad_not _ hin
      have HN2 := Lib.hid (HN.out.succ HX.out hin)
      obtain ⟨n92, n34, n39, n96, n32, n9, n13, n10⟩ := hn
      rw [decide_eq_false n92] at q92
      rw [decide_eq_false n34] at q34
      rw [decide_eq_false n39] at q39
      rw [decide_eq_false n96] at q96
      rw [decide_eq_false n32] at q32
      rw [decide_eq_false n9] at q9
      rw [decide_eq_false n13] at q13
      rw [decide_eq_false n10] at q10
      clear hin n92 n34 n39 n96 n32 n9 n13 n10
      go_wp2_with fail
      go_roundg (gk - 1)
      case measure => omega
      case rel => exact ⟨i + 1, by omega, by go_num, HN2, rfl⟩
end Go.Proofs.YtejogobhnbjpdaaGreatDoor
namespace Go.Proofs.YtejogobhnbjpdaaGreatDoor
set_option linter.unusedVariables false
set_option linter.unusedSimpArgs false
open Go.ChangeShapes Go.WideShapes Go.ChangeAt Go.RowKit

theorem specR_is (L : List Tk) {n : Nat} {b : Bool} (hb : named (tk L 0) = b) (hn : n = nx b 0) : specR L 0 = if isPath (tk L n).1 (tk L n).2.1 = true then (some (if b = true then (tk L 0).2.1 else ⟨#[]⟩, mid (tk L n).2.1, (tk L 0).2.2), n + 1) else (none, n) := by
  subst hb; subst hn
  unfold specR
  by_cases h : (tk L (nx (named (tk L 0)) 0)).1 = 4 ∧ pathOk (mid (tk L (nx (named (tk L 0)) 0)).2.1) = true
  · have hip : isPath (tk L (nx (named (tk L 0)) 0)).1 (tk L (nx (named (tk L 0)) 0)).2.1 = true := by unfold isPath; rw [decide_eq_true h.1, h.2]; rfl
    rw [if_pos h]
    exact (if_pos hip).symm
  · have hip : ¬ isPath (tk L (nx (named (tk L 0)) 0)).1 (tk L (nx (named (tk L 0)) 0)).2.1 = true := by
      unfold isPath
      rw [Bool.and_eq_true]
      exact fun k => h ⟨of_decide_eq_true k.1, k.2⟩
    rw [if_neg h]
    exact (if_neg hip).symm
theorem lat_set {w : World} {n c j : Nat} {u : Value} {X : Type} {fl : X → List Value} {v : Value} {l : List X} (h : LAt n fl w v l) (hn : 0 < l.length → v.ownBlock ≠ some c) : LAt n fl (w.setCell ⟨c, j, none⟩ u) v l := by
  refine ⟨h.1, ?_⟩
  rcases h.2 with h | ⟨b, off, cap, rfl, h2, h3, h4, h5⟩
  · exact .inl h
  · by_cases h0 : 0 < l.length
    case neg => exact .inl ⟨_, _, by rw [show l.length = 0 by omega], List.eq_nil_of_length_eq_zero (by omega)⟩
    have hbc : b ≠ c := fun e => hn h0 (by rw [e]; rfl)
    have hb : (w.setCell ⟨c, j, none⟩ u).heap[b]? = w.heap[b]? := by
      show (w.heap.modify c _)[b]? = _
      rw [Array.getElem?_modify, if_neg (fun e => hbc e.symm)]
    refine .inr ⟨b, off, cap, rfl, ?_, h3, h4, fun j x hx => ?_⟩
    · show b < (w.heap.modify c _).size
      rw [Array.size_modify]; exact h2
    · have := h5 j x hx
      rw [← this]
      simp only [World.cell?, hb]
theorem set_other {w : World} {g n : Nat} {j : Nat} {u : Value} (h : g ≠ n) : (w.setCell ⟨g, j, none⟩ u).heap[n]? = w.heap[n]? := by
  show (w.heap.modify g _)[n]? = _
  rw [Array.getElem?_modify, if_neg h]
def SpecEnd (L : List Tk) (w : World) (e : Ending) (w' : World) : Prop :=
  (∃ (x : Value) (a b : Nat), e = .returned (.tuple #[x, .int .i64 a, .int .i64 b]) ∧ ((∃ m, (specR L 0).1 = some m ∧ x = .agg (imV m).toArray ∧ a = (specR L 0).2 ∧ b = 0) ∨ ((specR L 0).1 = none ∧ a = 0 ∧ b = (specR L 0).2 ∧ ∃ (s1 s2 : ByteArray) (z : Nat), x = .agg #[.string s1, .string s2, .int .i64 z]))) ∧ Below w.heap.size w w'
theorem set3h (w : World) (g : Nat) (a b c x y z : Value) (hg : w.heap[g]? = some (.cells #[a, b, c] 38 (0, 0))) :
    ((w.setCell ⟨g, 0, none⟩ x).setCell ⟨g, 1, none⟩ y).setCell ⟨g, 2, none⟩ z = w.setRow g #[x, y, z] := set3r w g _ _ _ x y z _ _ hg
theorem size38 : (Tryz.prog.info? 38).map (·.size) = some 3 := by as_aux_lemma => kernel_rfl
theorem sret {R : Ending → World → Prop} {ac : Act} {w : World} {g : Nat} {a b c x y z u v : Value} (hg : w.heap[g]? = some (.cells #[a, b, c] 38 (0, 0)))
    (hp : ac.tmps.getD 2 undef = .pointer (some ⟨g, 0, none⟩)) (hu : ac.tmps.getD 3 undef = u) (hv : ac.tmps.getD 4 undef = v) (hd : ac.defers = []) (hR : R (.returned (.tuple #[.agg #[x, y, z], u, v])) (w.setRow g #[x, y, z])) :
    bodyPost Tryz.prog Tryz.f32 R .ret ac (((w.setCell ⟨g, 0, none⟩ x).setCell ⟨g, 1, none⟩ y).setCell ⟨g, 2, none⟩ z) := by
  rw [set3h w g _ _ _ x y z hg]
  have hg2 := setRow_heap w g #[a, b, c] #[x, y, z] 38 (0, 0) hg
  refine bodyPost_ret (v := .tuple #[.agg #[x, y, z], u, v]) ?_ hd hR
  have q0 := block_cell hg2 0
  have q1 := block_cell hg2 1
  have q2 := block_cell hg2 2
  have hp' : ac.tmps[2]?.getD undef = .pointer (some ⟨g, 0, none⟩) := by simpa using hp
  have hu' : ac.tmps[3]?.getD undef = u := by simpa using hu
  have hv' : ac.tmps[4]?.getD undef = v := by simpa using hv
  simp [results, show Tryz.f32.results = #[.cell 2 38, .tmp 3, .tmp 4] from rfl, go_sem, hp', hu', hv', asAddr, q0, q1, q2]
set_option maxRecDepth 100000 in
set_option maxHeartbeats 3000000 in
theorem dspec_any (L : List Tk) (v : Value) (w : World) (hv : LAt 3 tkV w v L) (F : EndT L) (hl : L.length ≤ 4194304) : Calls Tryz.prog 32 #[v] w (SpecEnd L w) := by
  have hpos := F.pos
  obtain ⟨p, cap, rfl, hp⟩ := hv.shape
  obtain ⟨g, off, rfl⟩ := hp hpos
  have hposI : (0 : Int) < (L.length : Int) := by omega
  have h00 := tk_some hpos
  have hst := Lib.hid (fun i hi => F.st i (tk L i) (tk_some hi))
  have hon : (tk L 0).1 ≠ 0 → (tk L 0).1 ≠ 7 → 1 < L.length := fun h1 h2 => F.on 0 _ h00 h1 h2
  have HSR := Lib.hid (fun (n : Nat) (b : Bool) hb hn => specR_is L (n := n) (b := b) hb hn)
  have HGET := Lib.hid (fun i hi => tk_some (T := L) (i := i) hi)
  obtain ⟨⟨k0, x0, p0⟩, h0⟩ : ∃ t, tk L 0 = t := ⟨_, rfl⟩
  rw [h0] at h00 hon
  dsimp only at hon
  obtain ⟨hgl, c0, c1, c2⟩ := lat_tk hv h00
  rw [Nat.zero_mul, Nat.add_zero] at c0 c1 c2
  have HV := Lib.hid hv
  have hB0 := (Below.refl w.heap.size w).alloc (Nat.le_refl _) (.cells #[.string ⟨#[]⟩, .string ⟨#[]⟩, .int .i64 0] 38)
  have hn0 := heap_alloc_new w (.cells #[.string ⟨#[]⟩, .string ⟨#[]⟩, .int .i64 0] 38)
  have hs0 : (w.alloc (.cells #[.string ⟨#[]⟩, .string ⟨#[]⟩, .int .i64 0] 38)).heap.size = w.heap.size + 1 := by simp
  have hB1 := (Below.refl (w.alloc (.cells #[.string ⟨#[]⟩, .string ⟨#[]⟩, .int .i64 0] 38)).heap.size _).alloc (Nat.le_refl _) (.cells #[.string ⟨#[]⟩, .string ⟨#[]⟩, .int .i64 (p0 : Nat)] 38)
  have hn1 := heap_alloc_new (w.alloc (.cells #[.string ⟨#[]⟩, .string ⟨#[]⟩, .int .i64 0] 38)) (.cells #[.string ⟨#[]⟩, .string ⟨#[]⟩, .int .i64 (p0 : Nat)] 38)
  rw [hs0] at hn1
  have hn0' := (hB1.block _ (lt_of_block hn0)).trans hn0
  have HB2 := Lib.hid (hB0.trans (hB1.mono hB0.size))
  have HV2 := Lib.hid (hv.below (hB0.trans (hB1.mono hB0.size)))
  have N0 := Lib.hid hn0'
  have N1 := Lib.hid hn1
  have k1 : ((k0 : Int) == 1) = decide (k0 = 1) := int_eqb k0 1
  have k5 : ((k0 : Int) == 5) = decide (k0 = 5) := int_eqb k0 5
  have kd := str_lit x0 #[46]
  have HK := Lib.hid (fun w1 => dkey_any x0 w1)
  clear hB0 hn0 hs0 hB1 hn1 hn0' hv hp h00
  go_enter Tryz.func32, Tryz.ntmps32
  go_upto_region 3 with fail
  generalize (w.alloc (.cells #[.string ⟨#[]⟩, .string ⟨#[]⟩, .int .i64 0] 38)).alloc (.cells #[.string ⟨#[]⟩, .string ⟨#[]⟩, .int .i64 (p0 : Nat)] 38) = w2 at *
  clear c0 c1 c2 HV
  obtain ⟨hgl2, c0, c1, c2⟩ := lat_tk HV2.out (HGET.out 0 hpos)
  rw [h0, Nat.zero_mul, Nat.add_zero] at c0 c1 c2
  dsimp only at c0 c1 c2
  by_cases h1 : k0 = 1
  · rw [decide_eq_true h1] at k1
    have h1L := hon (by omega) (by omega)
    have h1I : (1 : Int) < (L.length : Int) := by omega
    cases hkb : keyB x0 with
    | false =>
      rw [hkb] at HK
      have hnm : named (tk L 0) = true := by rw [h0]; unfold named tName; simp [h1, hkb]
      clear hkb k5 kd h1 hon
      go_wp2_with fail
      refine (HK.out _).mono ?_
      rintro r w3 ⟨rfl, hB⟩
      have M0 := Lib.hid ((hB.block _ (lt_of_block N0.out)).trans N0.out)
      have M1 := Lib.hid ((hB.block _ (lt_of_block N1.out)).trans N1.out)
      have HV3 := Lib.hid (HV2.out.below hB)
      have HB3 := Lib.hid (HB2.out.trans (hB.mono HB2.out.size))
      clear hB c0 c1 c2
      obtain ⟨hgl3, c0, c1, c2⟩ := lat_tk HV3.out (HGET.out 0 hpos)
      rw [h0, Nat.zero_mul, Nat.add_zero] at c0 c1 c2
      dsimp only at c0 c1 c2
      have hz1 := block_free M1.out 0
      have hb1c := block_cell M1.out 0
      have hset := block_set (i := 0) (u := .string x0) M1.out
      have M1s := Lib.hid (show (w3.setCell ⟨w.heap.size + 1, 0, none⟩ (.string x0)).heap[w.heap.size + 1]? = some (.cells #[.string x0, .string ⟨#[]⟩, .int .i64 (p0 : Nat)] 38 (0, 0)) from by simpa using hset)
      have M0s := Lib.hid ((set_other (w := w3) (g := w.heap.size + 1) (n := w.heap.size) (j := 0) (u := .string x0) (by omega)).trans M0.out)
      have HV3s := Lib.hid (lat_set (j := 0) (u := .string x0) HV3.out (c := w.heap.size + 1) (fun _ e => by
        have : g = w.heap.size + 1 := Option.some.inj e
        omega))
      have HB3s := Lib.hid (HB3.out.setCell (p := ⟨w.heap.size + 1, 0, none⟩) (by show w.heap.size ≤ w.heap.size + 1; omega) (.string x0))
      clear hset
      go_upto_region 6 with fail
      generalize w3.setCell ⟨w.heap.size + 1, 0, none⟩ (.string x0) = w4 at *
      clear hz1 hb1c c0 c1 c2 M0 M1 HV3 HB3
      have M0 := M0s
      have M1 := M1s
      have HV3 := HV3s
      have HB3 := HB3s
      have hnl : 1 < L.length := h1L
      have hst1 := hst.out 1 hnl
      have hsp := HSR.out 1 true hnm rfl
      obtain ⟨d0l, d0, d1, d2⟩ := lat_tk HV3.out (HGET.out 1 hnl)
      obtain ⟨⟨kn, xn, an⟩, hn_⟩ : ∃ t, tk L 1 = t := ⟨_, rfl⟩
      rw [hn_] at d0 d1 d2 hst1 hsp
      rw [h0] at hsp
      dsimp only at d0 d1 d2 hst1 hsp
      rw [Nat.one_mul] at d0 d1 d2
      have HSP := Lib.hid hsp
      have HP := Lib.hid (fun w1 => dpath_any kn xn an w1 hst1)
      have hnlI : (1 : Int) < (L.length : Int) := by omega
      clear hsp hn_ hst1
      go_wp2_with fail
      refine (HP.out _).mono ?_
      rintro r w5 ⟨rfl, hB⟩
      have hm0 := (hB.block _ (lt_of_block M0.out)).trans M0.out
      have hm1 := (hB.block _ (lt_of_block M1.out)).trans M1.out
      have P0 := Lib.hid hm0
      have P1 := Lib.hid hm1
      have HB5 := Lib.hid (HB3.out.trans (hB.mono HB3.out.size))
      have a0 := block_cell hm0 0
      have a1 := block_cell hm0 1
      have a2 := block_cell hm0 2
      have z0 := block_free hm0 0
      have z1 := block_free hm0 1
      have z2 := block_free hm0 2
      have b0 := block_cell hm1 0
      have b1 := block_cell hm1 1
      have b2 := block_cell hm1 2
      have y0 := block_free hm1 0
      have y1 := block_free hm1 1
      have y2 := block_free hm1 2
      clear hB hm0 hm1 d0 d1 d2
      cases hip : isPath kn xn with
      | false =>
        have HQ := Lib.hid (HSP.out.trans (if_neg (by rw [hip]; decide)))
        rw [pathS_no hip]
        clear hip
        go_wp2_with fail
        refine sret (u := .int .i64 0) (v := .int .i64 1) P0.out ?_ ?_ ?_ ?_ ?_
        · rfl
        · rfl
        · rfl
        · rfl
        refine ⟨⟨_, 0, 1, rfl, .inr ⟨?_, rfl, ?_, _, _, _, rfl⟩⟩, below_row HB5.out P0.out (Nat.le_refl _) _ _ _⟩
        · rw [HQ.out]
        · rw [HQ.out]
      | true =>
        have HQ := Lib.hid (HSP.out.trans (if_pos hip))
        rw [pathS_yes hip]
        clear hip
        generalize mid xn = mx at *
        have hne : w.heap.size + 1 ≠ w.heap.size := by omega
        go_wp2_with fail
        refine sret (u := .int .i64 (1 + 1)) (v := .int .i64 0) (show (w5.setCell ⟨w.heap.size + 1, 1, none⟩ (.string mx)).heap[w.heap.size]? = _ from (set_other hne).trans P0.out) ?_ ?_ ?_ ?_ ?_
        · rfl
        · rfl
        · rfl
        · rfl
        refine ⟨⟨_, 1 + 1, 0, rfl, .inl ⟨_, by rw [HQ.out], rfl, by rw [HQ.out], rfl⟩⟩, below_row (HB5.out.setCell (p := ⟨w.heap.size + 1, 1, none⟩) (by show w.heap.size ≤ w.heap.size + 1; omega) _) (show (w5.setCell ⟨w.heap.size + 1, 1, none⟩ (.string mx)).heap[w.heap.size]? = _ from (set_other hne).trans P0.out) (Nat.le_refl _) _ _ _⟩
    | true =>
      rw [hkb] at HK
      have hnm : named (tk L 0) = false := by rw [h0]; unfold named tName tIs; simp [h1, hkb]
      have h5n : ((1 : Int) == 5) = false := by decide
      clear hkb kd
      rw [decide_eq_false (show ¬ k0 = 5 by omega)] at k5
      clear h1 hon h5n
      go_wp2_with fail
      refine (HK.out _).mono ?_
      rintro r w3 ⟨rfl, hB⟩
      have M0 := Lib.hid ((hB.block _ (lt_of_block N0.out)).trans N0.out)
      have M1 := Lib.hid ((hB.block _ (lt_of_block N1.out)).trans N1.out)
      have HV3 := Lib.hid (HV2.out.below hB)
      have HB3 := Lib.hid (HB2.out.trans (hB.mono HB2.out.size))
      clear hB c0 c1 c2
      obtain ⟨hgl3, c0, c1, c2⟩ := lat_tk HV3.out (HGET.out 0 hpos)
      rw [h0, Nat.zero_mul, Nat.add_zero] at c0 c1 c2
      dsimp only at c0 c1 c2
      clear hgl3
      have hnl : 0 < L.length := hpos
      have hst1 := hst.out 0 hnl
      have hsp := HSR.out 0 false hnm rfl
      obtain ⟨d0l, d0, d1, d2⟩ := lat_tk HV3.out (HGET.out 0 hnl)
      rw [h0] at d0 d1 d2 hst1 hsp
      dsimp only at d0 d1 d2 hst1 hsp
      rw [Nat.zero_mul, Nat.add_zero] at d0 d1 d2
      have HSP := Lib.hid hsp
      have HP := Lib.hid (fun w1 => dpath_any k0 x0 p0 w1 hst1)
      have hnlI : (0 : Int) < (L.length : Int) := by omega
      clear hsp hst1
      go_wp2_with fail
      refine (HP.out _).mono ?_
      rintro r w5 ⟨rfl, hB⟩
      have hm0 := (hB.block _ (lt_of_block M0.out)).trans M0.out
      have hm1 := (hB.block _ (lt_of_block M1.out)).trans M1.out
      have P0 := Lib.hid hm0
      have P1 := Lib.hid hm1
      have HB5 := Lib.hid (HB3.out.trans (hB.mono HB3.out.size))
      have a0 := block_cell hm0 0
      have a1 := block_cell hm0 1
      have a2 := block_cell hm0 2
      have z0 := block_free hm0 0
      have z1 := block_free hm0 1
      have z2 := block_free hm0 2
      have b0 := block_cell hm1 0
      have b1 := block_cell hm1 1
      have b2 := block_cell hm1 2
      have y0 := block_free hm1 0
      have y1 := block_free hm1 1
      have y2 := block_free hm1 2
      clear hB hm0 hm1 d0 d1 d2
      cases hip : isPath k0 x0 with
      | false =>
        have HQ := Lib.hid (HSP.out.trans (if_neg (by rw [hip]; decide)))
        rw [pathS_no hip]
        clear hip
        go_wp2_with fail
        refine sret (u := .int .i64 0) (v := .int .i64 0) P0.out ?_ ?_ ?_ ?_ ?_
        · rfl
        · rfl
        · rfl
        · rfl
        refine ⟨⟨_, 0, 0, rfl, .inr ⟨?_, rfl, ?_, _, _, _, rfl⟩⟩, below_row HB5.out P0.out (Nat.le_refl _) _ _ _⟩
        · rw [HQ.out]
        · rw [HQ.out]
      | true =>
        have HQ := Lib.hid (HSP.out.trans (if_pos hip))
        rw [pathS_yes hip]
        clear hip
        generalize mid x0 = mx at *
        have hne : w.heap.size + 1 ≠ w.heap.size := by omega
        go_wp2_with fail
        refine sret (u := .int .i64 (0 + 1)) (v := .int .i64 0) (show (w5.setCell ⟨w.heap.size + 1, 1, none⟩ (.string mx)).heap[w.heap.size]? = _ from (set_other hne).trans P0.out) ?_ ?_ ?_ ?_ ?_
        · rfl
        · rfl
        · rfl
        · rfl
        refine ⟨⟨_, 0 + 1, 0, rfl, .inl ⟨_, by rw [HQ.out], rfl, by rw [HQ.out], rfl⟩⟩, below_row (HB5.out.setCell (p := ⟨w.heap.size + 1, 1, none⟩) (by show w.heap.size ≤ w.heap.size + 1; omega) _) (show (w5.setCell ⟨w.heap.size + 1, 1, none⟩ (.string mx)).heap[w.heap.size]? = _ from (set_other hne).trans P0.out) (Nat.le_refl _) _ _ _⟩
  rw [decide_eq_false h1] at k1
  by_cases h5 : k0 = 5
  · rw [decide_eq_true h5] at k5
    have h1L := hon (by omega) (by omega)
    have h1I : (1 : Int) < (L.length : Int) := by omega
    by_cases hd : x0 = ⟨#[46]⟩
    · rw [decide_eq_true hd] at kd
      have hnm : named (tk L 0) = true := by rw [h0]; unfold named tIs; simp [h5, hd]
      have M0 := N0
      have M1 := N1
      have HV3 := HV2
      have HB3 := HB2
      clear hd h1 h5 hon
      have hz1 := block_free M1.out 0
      have hb1c := block_cell M1.out 0
      have hset := block_set (i := 0) (u := .string x0) M1.out
      have M1s := Lib.hid (show (w2.setCell ⟨w.heap.size + 1, 0, none⟩ (.string x0)).heap[w.heap.size + 1]? = some (.cells #[.string x0, .string ⟨#[]⟩, .int .i64 (p0 : Nat)] 38 (0, 0)) from by simpa using hset)
      have M0s := Lib.hid ((set_other (w := w2) (g := w.heap.size + 1) (n := w.heap.size) (j := 0) (u := .string x0) (by omega)).trans M0.out)
      have HV3s := Lib.hid (lat_set (j := 0) (u := .string x0) HV3.out (c := w.heap.size + 1) (fun _ e => by
        have : g = w.heap.size + 1 := Option.some.inj e
        omega))
      have HB3s := Lib.hid (HB3.out.setCell (p := ⟨w.heap.size + 1, 0, none⟩) (by show w.heap.size ≤ w.heap.size + 1; omega) (.string x0))
      clear hset
      go_upto_region 6 with fail
      generalize w2.setCell ⟨w.heap.size + 1, 0, none⟩ (.string x0) = w4 at *
      clear hz1 hb1c c0 c1 c2 M0 M1 HV3 HB3
      have M0 := M0s
      have M1 := M1s
      have HV3 := HV3s
      have HB3 := HB3s
      have hnl : 1 < L.length := h1L
      have hst1 := hst.out 1 hnl
      have hsp := HSR.out 1 true hnm rfl
      obtain ⟨d0l, d0, d1, d2⟩ := lat_tk HV3.out (HGET.out 1 hnl)
      obtain ⟨⟨kn, xn, an⟩, hn_⟩ : ∃ t, tk L 1 = t := ⟨_, rfl⟩
      rw [hn_] at d0 d1 d2 hst1 hsp
      rw [h0] at hsp
      dsimp only at d0 d1 d2 hst1 hsp
      rw [Nat.one_mul] at d0 d1 d2
      have HSP := Lib.hid hsp
      have HP := Lib.hid (fun w1 => dpath_any kn xn an w1 hst1)
      have hnlI : (1 : Int) < (L.length : Int) := by omega
      clear hsp hn_ hst1
      go_wp2_with fail
      refine (HP.out _).mono ?_
      rintro r w5 ⟨rfl, hB⟩
      have hm0 := (hB.block _ (lt_of_block M0.out)).trans M0.out
      have hm1 := (hB.block _ (lt_of_block M1.out)).trans M1.out
      have P0 := Lib.hid hm0
      have P1 := Lib.hid hm1
      have HB5 := Lib.hid (HB3.out.trans (hB.mono HB3.out.size))
      have a0 := block_cell hm0 0
      have a1 := block_cell hm0 1
      have a2 := block_cell hm0 2
      have z0 := block_free hm0 0
      have z1 := block_free hm0 1
      have z2 := block_free hm0 2
      have b0 := block_cell hm1 0
      have b1 := block_cell hm1 1
      have b2 := block_cell hm1 2
      have y0 := block_free hm1 0
      have y1 := block_free hm1 1
      have y2 := block_free hm1 2
      clear hB hm0 hm1 d0 d1 d2
      cases hip : isPath kn xn with
      | false =>
        have HQ := Lib.hid (HSP.out.trans (if_neg (by rw [hip]; decide)))
        rw [pathS_no hip]
        clear hip
        go_wp2_with fail
        refine sret (u := .int .i64 0) (v := .int .i64 1) P0.out ?_ ?_ ?_ ?_ ?_
        · rfl
        · rfl
        · rfl
        · rfl
        refine ⟨⟨_, 0, 1, rfl, .inr ⟨?_, rfl, ?_, _, _, _, rfl⟩⟩, below_row HB5.out P0.out (Nat.le_refl _) _ _ _⟩
        · rw [HQ.out]
        · rw [HQ.out]
      | true =>
        have HQ := Lib.hid (HSP.out.trans (if_pos hip))
        rw [pathS_yes hip]
        clear hip
        generalize mid xn = mx at *
        have hne : w.heap.size + 1 ≠ w.heap.size := by omega
        go_wp2_with fail
        refine sret (u := .int .i64 (1 + 1)) (v := .int .i64 0) (show (w5.setCell ⟨w.heap.size + 1, 1, none⟩ (.string mx)).heap[w.heap.size]? = _ from (set_other hne).trans P0.out) ?_ ?_ ?_ ?_ ?_
        · rfl
        · rfl
        · rfl
        · rfl
        refine ⟨⟨_, 1 + 1, 0, rfl, .inl ⟨_, by rw [HQ.out], rfl, by rw [HQ.out], rfl⟩⟩, below_row (HB5.out.setCell (p := ⟨w.heap.size + 1, 1, none⟩) (by show w.heap.size ≤ w.heap.size + 1; omega) _) (show (w5.setCell ⟨w.heap.size + 1, 1, none⟩ (.string mx)).heap[w.heap.size]? = _ from (set_other hne).trans P0.out) (Nat.le_refl _) _ _ _⟩
    · rw [decide_eq_false hd] at kd
      have hnm : named (tk L 0) = false := by rw [h0]; unfold named tName tIs; simp [h5, hd]
      have M0 := N0
      have M1 := N1
      have HV3 := HV2
      have HB3 := HB2
      clear hd h1 h5 hon
      have hnl : 0 < L.length := hpos
      have hst1 := hst.out 0 hnl
      have hsp := HSR.out 0 false hnm rfl
      obtain ⟨d0l, d0, d1, d2⟩ := lat_tk HV3.out (HGET.out 0 hnl)
      rw [h0] at d0 d1 d2 hst1 hsp
      dsimp only at d0 d1 d2 hst1 hsp
      rw [Nat.zero_mul, Nat.add_zero] at d0 d1 d2
      have HSP := Lib.hid hsp
      have HP := Lib.hid (fun w1 => dpath_any k0 x0 p0 w1 hst1)
      have hnlI : (0 : Int) < (L.length : Int) := by omega
      clear hsp hst1
      go_wp2_with fail
      refine (HP.out _).mono ?_
      rintro r w5 ⟨rfl, hB⟩
      have hm0 := (hB.block _ (lt_of_block M0.out)).trans M0.out
      have hm1 := (hB.block _ (lt_of_block M1.out)).trans M1.out
      have P0 := Lib.hid hm0
      have P1 := Lib.hid hm1
      have HB5 := Lib.hid (HB3.out.trans (hB.mono HB3.out.size))
      have a0 := block_cell hm0 0
      have a1 := block_cell hm0 1
      have a2 := block_cell hm0 2
      have z0 := block_free hm0 0
      have z1 := block_free hm0 1
      have z2 := block_free hm0 2
      have b0 := block_cell hm1 0
      have b1 := block_cell hm1 1
      have b2 := block_cell hm1 2
      have y0 := block_free hm1 0
      have y1 := block_free hm1 1
      have y2 := block_free hm1 2
      clear hB hm0 hm1 d0 d1 d2
      cases hip : isPath k0 x0 with
      | false =>
        have HQ := Lib.hid (HSP.out.trans (if_neg (by rw [hip]; decide)))
        rw [pathS_no hip]
        clear hip
        go_wp2_with fail
        refine sret (u := .int .i64 0) (v := .int .i64 0) P0.out ?_ ?_ ?_ ?_ ?_
        · rfl
        · rfl
        · rfl
        · rfl
        refine ⟨⟨_, 0, 0, rfl, .inr ⟨?_, rfl, ?_, _, _, _, rfl⟩⟩, below_row HB5.out P0.out (Nat.le_refl _) _ _ _⟩
        · rw [HQ.out]
        · rw [HQ.out]
      | true =>
        have HQ := Lib.hid (HSP.out.trans (if_pos hip))
        rw [pathS_yes hip]
        clear hip
        generalize mid x0 = mx at *
        have hne : w.heap.size + 1 ≠ w.heap.size := by omega
        go_wp2_with fail
        refine sret (u := .int .i64 (0 + 1)) (v := .int .i64 0) (show (w5.setCell ⟨w.heap.size + 1, 1, none⟩ (.string mx)).heap[w.heap.size]? = _ from (set_other hne).trans P0.out) ?_ ?_ ?_ ?_ ?_
        · rfl
        · rfl
        · rfl
        · rfl
        refine ⟨⟨_, 0 + 1, 0, rfl, .inl ⟨_, by rw [HQ.out], rfl, by rw [HQ.out], rfl⟩⟩, below_row (HB5.out.setCell (p := ⟨w.heap.size + 1, 1, none⟩) (by show w.heap.size ≤ w.heap.size + 1; omega) _) (show (w5.setCell ⟨w.heap.size + 1, 1, none⟩ (.string mx)).heap[w.heap.size]? = _ from (set_other hne).trans P0.out) (Nat.le_refl _) _ _ _⟩
  rw [decide_eq_false h5] at k5
  have hnm : named (tk L 0) = false := by rw [h0]; unfold named tName tIs; simp [h1, h5]
  have M0 := N0
  have M1 := N1
  have HV3 := HV2
  have HB3 := HB2
  clear h1 h5 hon
  have hnl : 0 < L.length := hpos
  have hst1 := hst.out 0 hnl
  have hsp := HSR.out 0 false hnm rfl
  obtain ⟨d0l, d0, d1, d2⟩ := lat_tk HV3.out (HGET.out 0 hnl)
  rw [h0] at d0 d1 d2 hst1 hsp
  dsimp only at d0 d1 d2 hst1 hsp
  rw [Nat.zero_mul, Nat.add_zero] at d0 d1 d2
  have HSP := Lib.hid hsp
  have HP := Lib.hid (fun w1 => dpath_any k0 x0 p0 w1 hst1)
  have hnlI : (0 : Int) < (L.length : Int) := by omega
  clear hsp hst1
  go_wp2_with fail
  refine (HP.out _).mono ?_
  rintro r w5 ⟨rfl, hB⟩
  have hm0 := (hB.block _ (lt_of_block M0.out)).trans M0.out
  have hm1 := (hB.block _ (lt_of_block M1.out)).trans M1.out
  have P0 := Lib.hid hm0
  have P1 := Lib.hid hm1
  have HB5 := Lib.hid (HB3.out.trans (hB.mono HB3.out.size))
  have a0 := block_cell hm0 0
  have a1 := block_cell hm0 1
  have a2 := block_cell hm0 2
  have z0 := block_free hm0 0
  have z1 := block_free hm0 1
  have z2 := block_free hm0 2
  have b0 := block_cell hm1 0
  have b1 := block_cell hm1 1
  have b2 := block_cell hm1 2
  have y0 := block_free hm1 0
  have y1 := block_free hm1 1
  have y2 := block_free hm1 2
  clear hB hm0 hm1 d0 d1 d2
  cases hip : isPath k0 x0 with
  | false =>
    have HQ := Lib.hid (HSP.out.trans (if_neg (by rw [hip]; decide)))
    rw [pathS_no hip]
    clear hip
    go_wp2_with fail
    refine sret (u := .int .i64 0) (v := .int .i64 0) P0.out ?_ ?_ ?_ ?_ ?_
    · rfl
    · rfl
    · rfl
    · rfl
    refine ⟨⟨_, 0, 0, rfl, .inr ⟨?_, rfl, ?_, _, _, _, rfl⟩⟩, below_row HB5.out P0.out (Nat.le_refl _) _ _ _⟩
    · rw [HQ.out]
    · rw [HQ.out]
  | true =>
    have HQ := Lib.hid (HSP.out.trans (if_pos hip))
    rw [pathS_yes hip]
    clear hip
    generalize mid x0 = mx at *
    have hne : w.heap.size + 1 ≠ w.heap.size := by omega
    go_wp2_with fail
    refine sret (u := .int .i64 (0 + 1)) (v := .int .i64 0) (show (w5.setCell ⟨w.heap.size + 1, 1, none⟩ (.string mx)).heap[w.heap.size]? = _ from (set_other hne).trans P0.out) ?_ ?_ ?_ ?_ ?_
    · rfl
    · rfl
    · rfl
    · rfl
    refine ⟨⟨_, 0 + 1, 0, rfl, .inl ⟨_, by rw [HQ.out], rfl, by rw [HQ.out], rfl⟩⟩, below_row (HB5.out.setCell (p := ⟨w.heap.size + 1, 1, none⟩) (by show w.heap.size ≤ w.heap.size + 1; omega) _) (show (w5.setCell ⟨w.heap.size + 1, 1, none⟩ (.string mx)).heap[w.heap.size]? = _ from (set_other hne).trans P0.out) (Nat.le_refl _) _ _ _⟩
end Go.Proofs.YtejogobhnbjpdaaGreatDoor
