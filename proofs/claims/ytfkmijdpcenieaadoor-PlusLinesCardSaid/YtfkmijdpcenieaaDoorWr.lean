/- Walks: the document's Pieces. -/
import Derived.Test.YtfkmijdpcenieaaDoorWq
namespace Go.Proofs.YtfkmijdpcenieaaDoor
set_option linter.unusedVariables false
open Go.ChangeShapes Go.WideShapes Go.ChangeAt Go.RowKit

theorem drop_byte (s : ByteArray) (i : Nat) (h : i < s.size) : s.data.toList.drop i = s[i] :: s.data.toList.drop (i + 1) := by
  have h' : i < s.data.toList.length := by rw [ba_len]; exact h
  rw [List.drop_eq_getElem_cons h']
  congr 1
theorem pc_tag (s : ByteArray) (i n : Nat) (h : i < s.size) (hn : 0 < n) (he : endN (s.data.toList.drop i) = n) : pieces (s.data.toList.drop i) = s.extract i (i + n) :: pieces (s.data.toList.drop (i + n)) := by
  have ht : tagC s[i] = true := by
    cases hc : tagC s[i] with
    | true => rfl
    | false => rw [drop_byte s i h] at he; unfold endN at he; rw [List.takeWhile_cons, hc] at he; simp at he; omega
  have hb : ¬ blank s[i] = true := fun hb => by rw [tag_not_blank hb] at ht; cases ht
  have hx : (s.data.toList.drop i).take n = (s.data.toList.drop i).takeWhile tagC := by
    rw [← he]; unfold endN; exact (List.prefix_iff_eq_take.1 (List.takeWhile_prefix _)).symm
  rw [extract_mk, show i + n - i = n by omega, hx]
  have e2 : endN (s.data.toList.drop (i + 1)) + 1 = n := by
    rw [drop_byte s i h] at he; unfold endN at he ⊢; rw [List.takeWhile_cons, ht] at he; simpa using he
  have e3 : s.data.toList.drop (i + n) = (s.data.toList.drop (i + 1)).drop (endN (s.data.toList.drop (i + 1))) := by
    rw [List.drop_drop]; congr 1; omega
  rw [e3, drop_byte s i h, pieces_cons, if_neg hb, if_pos ht]
  rfl
theorem pc_blank (s : ByteArray) (i : Nat) (h : i < s.size) (hb : blank s[i] = true) : pieces (s.data.toList.drop i) = pieces (s.data.toList.drop (i + 1)) := by
  rw [drop_byte s i h, pieces_cons, if_pos hb]
theorem pc_sign (s : ByteArray) (i : Nat) (h : i < s.size) (hc : s[i] = 33 ∨ s[i] = 40 ∨ s[i] = 41) : pieces (s.data.toList.drop i) = s.extract i (i + 1) :: pieces (s.data.toList.drop (i + 1)) := by
  rw [extract_mk, show i + 1 - i = 1 by omega, drop_byte s i h, pieces_cons]
  have hb : ¬ blank s[i] = true := by rcases hc with e | e | e <;> rw [e] <;> decide
  have ht : ¬ tagC s[i] = true := by rcases hc with e | e | e <;> rw [e] <;> decide
  rw [if_neg hb, if_neg ht, if_pos hc]
  rfl
theorem pc_two (s : ByteArray) (i : Nat) (h : i + 1 < s.size) (hc : s.extract i (i + 2) = mkB [38, 38] ∨ s.extract i (i + 2) = mkB [124, 124]) : pieces (s.data.toList.drop i) = s.extract i (i + 2) :: pieces (s.data.toList.drop (i + 2)) := by
  rw [extract_mk, show i + 2 - i = 2 by omega] at hc ⊢
  rw [drop_byte s i (by omega), drop_byte s (i + 1) h] at hc ⊢
  simp only [List.take_succ_cons, List.take_zero, mkB_eq, List.cons.injEq, and_true] at hc ⊢
  have hb : ¬ blank s[i] = true := by rcases hc with ⟨e, _⟩ | ⟨e, _⟩ <;> rw [e] <;> decide
  have ht : ¬ tagC s[i] = true := by rcases hc with ⟨e, _⟩ | ⟨e, _⟩ <;> rw [e] <;> decide
  have hs : ¬ (s[i] = 33 ∨ s[i] = 40 ∨ s[i] = 41) := by rcases hc with ⟨e, _⟩ | ⟨e, _⟩ <;> rw [e] <;> decide
  rw [pieces_cons, if_neg hb, if_neg ht, if_neg hs]
  simp only
  rw [if_pos hc]
theorem pc_none (s : ByteArray) (i : Nat) (h : i < s.size) (hb : blank s[i] = false) (ht : tagC s[i] = false) (hs : ¬ (s[i] = 33 ∨ s[i] = 40 ∨ s[i] = 41)) (hc : i + 1 < s.size → ¬ (s.extract i (i + 2) = mkB [38, 38] ∨ s.extract i (i + 2) = mkB [124, 124])) : pieces (s.data.toList.drop i) = [noneB] := by
  rw [drop_byte s i h, pieces_cons, if_neg (by rw [hb]; decide), if_neg (by rw [ht]; decide), if_neg hs]
  by_cases h1 : i + 1 < s.size
  · have hc := hc h1
    rw [extract_mk, show i + 2 - i = 2 by omega] at hc
    rw [drop_byte s i h] at hc
    rw [drop_byte s (i + 1) h1] at hc ⊢
    simp only [List.take_succ_cons, List.take_zero, mkB_eq, List.cons.injEq, and_true] at hc
    simp only
    rw [if_neg hc]
  · have : s.data.toList.drop (i + 1) = [] := List.drop_eq_nil_of_le (by rw [ba_len]; omega)
    rw [this]
theorem endN_at (s : ByteArray) (i n : Nat) (hn : i + n ≤ s.size) (h : ∀ j (hj : i + j < s.size), j < n → tagC s[i + j] = true) (hstop : i + n = s.size ∨ ∃ h : i + n < s.size, tagC s[i + n] = false) : endN (s.data.toList.drop i) = n := by
  have e := endN_drop (s.data.toList.drop i) n (fun j hj hjn => by
    rw [List.length_drop, ba_len] at hj
    rw [List.getElem_drop]
    exact h j (by omega) hjn) (by rw [List.length_drop, ba_len]; omega)
  rw [e, List.drop_drop]
  rcases hstop with hs | ⟨h1, h2⟩
  · have : s.data.toList.drop (i + n) = [] := List.drop_eq_nil_of_le (by rw [ba_len]; omega)
    rw [this]; rfl
  · rw [drop_byte s (i + n) h1]; unfold endN; rw [List.takeWhile_cons, h2]; rfl
theorem u8_is {c : UInt8} {k : Nat} (hk : k < 256) : (((c.toNat : Nat) : Int) == (k : Int)) = decide (c = UInt8.ofNat k) := by
  by_cases h : c = UInt8.ofNat k
  · rw [decide_eq_true h, h, UInt8.toNat_ofNat', Nat.mod_eq_of_lt hk]; simp
  · rw [decide_eq_false h, beq_eq_false_iff_ne]
    intro e
    have e2 : c.toNat = k := by omega
    exact h (by rw [← e2, UInt8.ofNat_toNat])
theorem yes_is {c : UInt8} (k : Nat) (hk : k < 256) (h : c = UInt8.ofNat k) : (((c.toNat : Nat) : Int) == (k : Int)) = true := by rw [u8_is hk]; exact decide_eq_true h
theorem not_is {c : UInt8} (k : Nat) (hk : k < 256) (h : c ≠ UInt8.ofNat k) : (((c.toNat : Nat) : Int) == (k : Int)) = false := by rw [u8_is hk]; exact decide_eq_false h
set_option maxRecDepth 100000 in
set_option maxHeartbeats 4000000 in
theorem pieces_any (s : ByteArray) (w : World) (hs : s.size ≤ 4096) : Calls Tryd.prog 44 #[.string s] w fun e w' => ∃ v, e = .returned v ∧ Strs w' v (pieces s.data.toList) ∧ Below w.heap.size w w' := by
  obtain ⟨i0, hi, hz0, hz1, hz2⟩ := info_parts Tryd.info9
  obtain ⟨D, hD⟩ : ∃ D, D = pieces s.data.toList := ⟨_, rfl⟩
  rw [← hD]
  have hD0 : D = [] ++ pieces (s.data.toList.drop 0) := by rw [hD]; rfl
  clear hD
  go_enter Tryd.func44, Tryd.ntmps44
  go_wp2_with fail
  go_loopg [3, 4, 5] s.size (fun g ov iv _ wr => ∃ (i : Nat) (acc : List ByteArray), i + g = s.size ∧ iv = .int .i64 i ∧ acc.length ≤ i ∧ wr.ownsRow w.heap.size 9 1 ov acc.length (acc.map Value.string) ∧ D = acc ++ pieces (s.data.toList.drop i) ∧ Below w.heap.size w wr)
  case atStart => exact ⟨0, [], by omega, rfl, Nat.le_refl _, World.ownsRow_nil _ _ _ _, hD0, Below.refl _ _⟩
  case round =>
    obtain ⟨i, acc, hig, rfl, hacc, hown, hDi, hB⟩ := hrel
    clear hD0
    have hBs := hB.size
    have Hown := Lib.hid hown
    have HDi := Lib.hid hDi
    clear hown hDi
    by_cases hlt : i < s.size
    · have hltI : (i : Int) < (s.size : Int) := by omega
      go_wp2_with fail
      obtain ⟨wo, rfl⟩ : ∃ wo : World, wo = wr := ⟨_, rfl⟩
      obtain ⟨gko, rfl⟩ : ∃ gko : Nat, gko = gk := ⟨_, rfl⟩
      go_loopg [5] s.size (fun g nv wr => ∃ n : Nat, i + n + g = s.size + i ∧ i + n ≤ s.size ∧ nv = .int .i64 n ∧ (∀ j (h : i + j < s.size), j < n → tagC s[i + j] = true) ∧ wo = wr)
      case atStart => exact ⟨0, by omega, by omega, rfl, fun j h hj => by omega, rfl⟩
      case round =>
        obtain ⟨n, hng, hn, rfl, htag, rfl⟩ := hrel
        have Htag := Lib.hid htag
        clear htag
        by_cases hlt2 : i + n < s.size
        · have hlt2I : (i : Int) + (n : Int) < (s.size : Int) := by omega
          have hcast : ((i : Int) + (n : Int)).toNat = i + n := by omega
          have HC := Lib.hid (sign_any (s[i + n]'hlt2) wo)
          cases hc : tagC (s[i + n]'hlt2) with
          | true =>
            rw [hc] at HC
            have hnx := Lib.hid (show ∀ j (h : i + j < s.size), j < n + 1 → tagC s[i + j] = true from fun j h hj => by
              by_cases e : j = n
              · subst e; exact hc
              · exact Htag.out j h (by omega))
            clear hc
            go_wp2_with fail
            refine HC.out.mono ?_
            rintro e w1 ⟨rfl, rfl⟩
            go_wp2_with fail
            go_roundg (gk - 1)
            case measure => omega
            case rel => exact ⟨n + 1, by omega, by omega, by go_num, hnx.out, rfl⟩
          | false =>
            have he := endN_at s i n hn Htag.out (.inr ⟨hlt2, hc⟩)
            by_cases hn0 : n = 0
            · subst hn0
              have HC := Lib.hid (sign_any (s[i]'hlt) wo)
              have hc : tagC (s[i]'hlt) = false := hc
              rw [hc] at HC
              clear he hlt2I hcast Htag hng hn
              by_cases e32 : s[i]'hlt = 32
              · have b32 : (((s[i]'hlt).toNat : Int) == 32) = true := yes_is 32 (by decide) (e32)
                have hp := Lib.hid (pc_blank s i hlt (by rw [e32]; decide))
                clear hc e32
                go_wp2_with fail
                refine HC.out.mono ?_
                rintro e w1 ⟨rfl, rfl⟩
                go_wp2_with fail
                go_roundg (gko - 1)
                case measure => omega
                case rel => exact ⟨i + 1, acc, by omega, by go_num, by omega, Hown.out, by rw [HDi.out, hp.out], hB⟩
              by_cases e9 : s[i]'hlt = 9
              · have b32 : (((s[i]'hlt).toNat : Int) == 32) = false := not_is 32 (by decide) (e32)
                have b9 : (((s[i]'hlt).toNat : Int) == 9) = true := yes_is 9 (by decide) (e9)
                have hp := Lib.hid (pc_blank s i hlt (by rw [e9]; decide))
                clear hc e32 e9
                go_wp2_with fail
                refine HC.out.mono ?_
                rintro e w1 ⟨rfl, rfl⟩
                go_wp2_with fail
                go_roundg (gko - 1)
                case measure => omega
                case rel => exact ⟨i + 1, acc, by omega, by go_num, by omega, Hown.out, by rw [HDi.out, hp.out], hB⟩
              have b32 : (((s[i]'hlt).toNat : Int) == 32) = false := not_is 32 (by decide) (e32)
              have b9 : (((s[i]'hlt).toNat : Int) == 9) = false := not_is 9 (by decide) (e9)
              by_cases e33 : s[i]'hlt = 33
              · have b33 : (((s[i]'hlt).toNat : Int) == 33) = true := yes_is 33 (by decide) (e33)
                have hp := Lib.hid (pc_sign s i hlt (.inl e33))
                clear hc e32 e9 e33
                go_wp2_with fail
                refine HC.out.mono ?_
                rintro e w1 ⟨rfl, rfl⟩
                go_wp2_with (at_builtin; go_must (refine wpList_append_own _ rfl (.tmp 88) (.tmp 95) 22 rfl w.heap.size 9 i0 (.string ⟨#[]⟩) 1 16 Tryd.underlying22 hi hz0 hz1 hz2 rfl (by decide) _ _ _ rfl (Hown.out.alloc _) ⟨wo.heap.size, 0, none⟩ 1 1 [.string (s.extract i (i + 1))] rfl rfl (cell_one_new _ _ _) (by intro u hu; simp at hu; subst hu; rfl) (by unfold maxLen; omega) (by omega) (by simp; omega) ?_); intro v3 w3 hown3 hgrow3 _)
                have hB3 := (hB.alloc hBs (Obj.cells #[Value.string (s.extract i (i + 1))] 9)).grown hgrow3 (by simp; omega) (fun q hq => (Hown.out.lt q hq).1)
                go_roundg (gko - 1)
                case measure => omega
                case rel => exact ⟨i + 1, acc ++ [s.extract i (i + 1)], by omega, by go_num, by simp; omega, by simpa using hown3, by rw [HDi.out, hp.out]; simp, hB3⟩
              by_cases e40 : s[i]'hlt = 40
              · have b40 : (((s[i]'hlt).toNat : Int) == 40) = true := yes_is 40 (by decide) (e40)
                have b33 : (((s[i]'hlt).toNat : Int) == 33) = false := not_is 33 (by decide) (e33)
                have hp := Lib.hid (pc_sign s i hlt (.inr (.inl e40)))
                clear hc e32 e9 e33 e40
                go_wp2_with fail
                refine HC.out.mono ?_
                rintro e w1 ⟨rfl, rfl⟩
                go_wp2_with (at_builtin; go_must (refine wpList_append_own _ rfl (.tmp 88) (.tmp 95) 22 rfl w.heap.size 9 i0 (.string ⟨#[]⟩) 1 16 Tryd.underlying22 hi hz0 hz1 hz2 rfl (by decide) _ _ _ rfl (Hown.out.alloc _) ⟨wo.heap.size, 0, none⟩ 1 1 [.string (s.extract i (i + 1))] rfl rfl (cell_one_new _ _ _) (by intro u hu; simp at hu; subst hu; rfl) (by unfold maxLen; omega) (by omega) (by simp; omega) ?_); intro v3 w3 hown3 hgrow3 _)
                have hB3 := (hB.alloc hBs (Obj.cells #[Value.string (s.extract i (i + 1))] 9)).grown hgrow3 (by simp; omega) (fun q hq => (Hown.out.lt q hq).1)
                go_roundg (gko - 1)
                case measure => omega
                case rel => exact ⟨i + 1, acc ++ [s.extract i (i + 1)], by omega, by go_num, by simp; omega, by simpa using hown3, by rw [HDi.out, hp.out]; simp, hB3⟩
              by_cases e41 : s[i]'hlt = 41
              · have b41 : (((s[i]'hlt).toNat : Int) == 41) = true := yes_is 41 (by decide) (e41)
                have b33 : (((s[i]'hlt).toNat : Int) == 33) = false := not_is 33 (by decide) (e33)
                have b40 : (((s[i]'hlt).toNat : Int) == 40) = false := not_is 40 (by decide) (e40)
                have hp := Lib.hid (pc_sign s i hlt (.inr (.inr e41)))
                clear hc e32 e9 e33 e40 e41
                go_wp2_with fail
                refine HC.out.mono ?_
                rintro e w1 ⟨rfl, rfl⟩
                go_wp2_with (at_builtin; go_must (refine wpList_append_own _ rfl (.tmp 88) (.tmp 95) 22 rfl w.heap.size 9 i0 (.string ⟨#[]⟩) 1 16 Tryd.underlying22 hi hz0 hz1 hz2 rfl (by decide) _ _ _ rfl (Hown.out.alloc _) ⟨wo.heap.size, 0, none⟩ 1 1 [.string (s.extract i (i + 1))] rfl rfl (cell_one_new _ _ _) (by intro u hu; simp at hu; subst hu; rfl) (by unfold maxLen; omega) (by omega) (by simp; omega) ?_); intro v3 w3 hown3 hgrow3 _)
                have hB3 := (hB.alloc hBs (Obj.cells #[Value.string (s.extract i (i + 1))] 9)).grown hgrow3 (by simp; omega) (fun q hq => (Hown.out.lt q hq).1)
                go_roundg (gko - 1)
                case measure => omega
                case rel => exact ⟨i + 1, acc ++ [s.extract i (i + 1)], by omega, by go_num, by simp; omega, by simpa using hown3, by rw [HDi.out, hp.out]; simp, hB3⟩
              have b33 : (((s[i]'hlt).toNat : Int) == 33) = false := not_is 33 (by decide) (e33)
              have b40 : (((s[i]'hlt).toNat : Int) == 40) = false := not_is 40 (by decide) (e40)
              have b41 : (((s[i]'hlt).toNat : Int) == 41) = false := not_is 41 (by decide) (e41)
              have hnb : blank (s[i]'hlt) = false := by
                unfold blank
                rw [Bool.or_eq_false_iff]
                exact ⟨by rw [beq_eq_false_iff_ne]; exact e32, by rw [beq_eq_false_iff_ne]; exact e9⟩
              have hns : ¬ (s[i]'hlt = 33 ∨ s[i]'hlt = 40 ∨ s[i]'hlt = 41) := by rintro (h | h | h); exact e33 h; exact e40 h; exact e41 h
              clear e32 e9 e33 e40 e41
              by_cases h1 : i + 1 < s.size
              · have h1I : (i : Int) < (s.size : Int) - 1 := by omega
                have c2 : (i : Int) + 2 ≤ (s.size : Int) := by omega
                have c3 : (i : Int) ≤ (i : Int) + 2 := by omega
                have c4 : ((i : Int) + 2).toNat = i + 2 := by omega
                by_cases t1 : s.extract i (i + 2) = mkB [38, 38]
                · have u1 : ((s.extract i (i + 2)).toList == ([38, 38] : List UInt8)) = true := by rw [lit_is]; exact decide_eq_true t1
                  have hp := Lib.hid (pc_two s i h1 (.inl t1))
                  clear hc hnb hns t1
                  go_wp2_with fail
                  refine HC.out.mono ?_
                  rintro e w1 ⟨rfl, rfl⟩
                  go_wp2_with (at_builtin; go_must (refine wpList_append_own _ rfl (.tmp 88) (.tmp 95) 22 rfl w.heap.size 9 i0 (.string ⟨#[]⟩) 1 16 Tryd.underlying22 hi hz0 hz1 hz2 rfl (by decide) _ _ _ rfl (Hown.out.alloc _) ⟨wo.heap.size, 0, none⟩ 1 1 [.string (s.extract i (i + 2))] rfl rfl (cell_one_new _ _ _) (by intro u hu; simp at hu; subst hu; rfl) (by unfold maxLen; omega) (by omega) (by simp; omega) ?_); intro v3 w3 hown3 hgrow3 _)
                  have hB3 := (hB.alloc hBs (Obj.cells #[Value.string (s.extract i (i + 2))] 9)).grown hgrow3 (by simp; omega) (fun q hq => (Hown.out.lt q hq).1)
                  go_roundg (gko - 2)
                  case measure => omega
                  case rel => exact ⟨i + 2, acc ++ [s.extract i (i + 2)], by omega, by go_num, by simp; omega, by simpa using hown3, by rw [HDi.out, hp.out]; simp, hB3⟩
                · have u1 : ((s.extract i (i + 2)).toList == ([38, 38] : List UInt8)) = false := by rw [lit_is]; exact decide_eq_false t1
                  by_cases t2 : s.extract i (i + 2) = mkB [124, 124]
                  · have u2 : ((s.extract i (i + 2)).toList == ([124, 124] : List UInt8)) = true := by rw [lit_is]; exact decide_eq_true t2
                    have hp := Lib.hid (pc_two s i h1 (.inr t2))
                    clear hc hnb hns t1 t2
                    go_wp2_with fail
                    refine HC.out.mono ?_
                    rintro e w1 ⟨rfl, rfl⟩
                    go_wp2_with (at_builtin; go_must (refine wpList_append_own _ rfl (.tmp 88) (.tmp 95) 22 rfl w.heap.size 9 i0 (.string ⟨#[]⟩) 1 16 Tryd.underlying22 hi hz0 hz1 hz2 rfl (by decide) _ _ _ rfl (Hown.out.alloc _) ⟨wo.heap.size, 0, none⟩ 1 1 [.string (s.extract i (i + 2))] rfl rfl (cell_one_new _ _ _) (by intro u hu; simp at hu; subst hu; rfl) (by unfold maxLen; omega) (by omega) (by simp; omega) ?_); intro v3 w3 hown3 hgrow3 _)
                    have hB3 := (hB.alloc hBs (Obj.cells #[Value.string (s.extract i (i + 2))] 9)).grown hgrow3 (by simp; omega) (fun q hq => (Hown.out.lt q hq).1)
                    go_roundg (gko - 2)
                    case measure => omega
                    case rel => exact ⟨i + 2, acc ++ [s.extract i (i + 2)], by omega, by go_num, by simp; omega, by simpa using hown3, by rw [HDi.out, hp.out]; simp, hB3⟩
                  · have u2 : ((s.extract i (i + 2)).toList == ([124, 124] : List UInt8)) = false := by rw [lit_is]; exact decide_eq_false t2
                    have hp := Lib.hid (pc_none s i hlt hnb hc hns (fun _ h => h.elim t1 t2))
                    clear t1 t2
                    clear hc hnb hns
                    go_wp2_with fail
                    refine HC.out.mono ?_
                    rintro e w1 ⟨rfl, rfl⟩
                    go_wp2_with (at_builtin; go_must (refine wpList_append_own _ rfl (.tmp 85) (.tmp 86) 22 rfl w.heap.size 9 i0 (.string ⟨#[]⟩) 1 16 Tryd.underlying22 hi hz0 hz1 hz2 rfl (by decide) _ _ _ rfl (Hown.out.alloc _) ⟨wo.heap.size, 0, none⟩ 1 1 [.string ⟨#[]⟩] rfl rfl (cell_one_new _ _ _) (by intro u hu; simp at hu; subst hu; rfl) (by unfold maxLen; omega) (by omega) (by simp; omega) ?_); intro v3 w3 hown3 hgrow3 _)
                    have hB3 := (hB.alloc hBs (Obj.cells #[Value.string ⟨#[]⟩] 9)).grown hgrow3 (by simp; omega) (fun q hq => (Hown.out.lt q hq).1)
                    go_ret
                    refine ⟨v3, rfl, Strs.ofRow (base := w.heap.size) (n := acc.length + 1) ?_, hB3⟩
                    rw [HDi.out, hp.out]
                    simpa [noneB] using hown3
              · have h1I : ¬ (i : Int) < (s.size : Int) - 1 := by omega
                have hp := Lib.hid (pc_none s i hlt hnb hc hns (fun h => absurd h h1))
                clear hc hnb hns
                go_wp2_with fail
                refine HC.out.mono ?_
                rintro e w1 ⟨rfl, rfl⟩
                go_wp2_with (at_builtin; go_must (refine wpList_append_own _ rfl (.tmp 85) (.tmp 86) 22 rfl w.heap.size 9 i0 (.string ⟨#[]⟩) 1 16 Tryd.underlying22 hi hz0 hz1 hz2 rfl (by decide) _ _ _ rfl (Hown.out.alloc _) ⟨wo.heap.size, 0, none⟩ 1 1 [.string ⟨#[]⟩] rfl rfl (cell_one_new _ _ _) (by intro u hu; simp at hu; subst hu; rfl) (by unfold maxLen; omega) (by omega) (by simp; omega) ?_); intro v3 w3 hown3 hgrow3 _)
                have hB3 := (hB.alloc hBs (Obj.cells #[Value.string ⟨#[]⟩] 9)).grown hgrow3 (by simp; omega) (fun q hq => (Hown.out.lt q hq).1)
                go_ret
                refine ⟨v3, rfl, Strs.ofRow (base := w.heap.size) (n := acc.length + 1) ?_, hB3⟩
                rw [HDi.out, hp.out]
                simpa [noneB] using hown3
            · have HC := Lib.hid (sign_any (s[i + n]'hlt2) wo)
              rw [hc] at HC
              have hp := Lib.hid (pc_tag s i n hlt (by omega) he)
              have ht : tagC (s[i]'hlt) = true := Htag.out 0 hlt (by omega)
              have b32 : (((s[i]'hlt).toNat : Int) == 32) = false := not_is 32 (by decide) (fun e => by rw [e] at ht; revert ht; decide)
              have b9 : (((s[i]'hlt).toNat : Int) == 9) = false := not_is 9 (by decide) (fun e => by rw [e] at ht; revert ht; decide)
              have n0 : ((n : Int) == 0) = false := by rw [beq_eq_false_iff_ne]; omega
              have c1 : (0 : Int) ≤ (i : Int) + (n : Int) := by omega
              have c2 : (i : Int) + (n : Int) ≤ (s.size : Int) := by omega
              have c3 : (i : Int) ≤ (i : Int) + (n : Int) := by omega
              have c4 : ((i : Int) + (n : Int)).toNat = i + n := by omega
              clear ht he
              clear hc
              go_wp2_with fail
              refine HC.out.mono ?_
              rintro e w1 ⟨rfl, rfl⟩
              go_wp2_with (at_builtin; go_must (refine wpList_append_own _ rfl (.tmp 88) (.tmp 95) 22 rfl w.heap.size 9 i0 (.string ⟨#[]⟩) 1 16 Tryd.underlying22 hi hz0 hz1 hz2 rfl (by decide) _ _ _ rfl (Hown.out.alloc _) ⟨wo.heap.size, 0, none⟩ 1 1 [.string (s.extract i (i + n))] rfl rfl (cell_one_new _ _ _) (by intro u hu; simp at hu; subst hu; rfl) (by unfold maxLen; omega) (by omega) (by simp; omega) ?_); intro v3 w3 hown3 hgrow3 _)
              have hB3 := (hB.alloc hBs (Obj.cells #[Value.string (s.extract i (i + n))] 9)).grown hgrow3 (by simp; omega) (fun q hq => (Hown.out.lt q hq).1)
              go_roundg (gko - n)
              case measure => omega
              case rel => exact ⟨i + n, acc ++ [s.extract i (i + n)], by omega, by go_num, by simp; omega, by simpa using hown3, by rw [HDi.out, hp.out]; simp, hB3⟩
        · have he := endN_at s i n hn Htag.out (.inl (by omega))
          have hlt2I : ¬ (i : Int) + (n : Int) < (s.size : Int) := by omega
          have hp := Lib.hid (pc_tag s i n hlt (by omega) he)
          have ht : tagC (s[i]'hlt) = true := Htag.out 0 hlt (by omega)
          have b32 : (((s[i]'hlt).toNat : Int) == 32) = false := not_is 32 (by decide) (fun e => by rw [e] at ht; revert ht; decide)
          have b9 : (((s[i]'hlt).toNat : Int) == 9) = false := not_is 9 (by decide) (fun e => by rw [e] at ht; revert ht; decide)
          have n0 : ((n : Int) == 0) = false := by rw [beq_eq_false_iff_ne]; omega
          have c1 : (0 : Int) ≤ (i : Int) + (n : Int) := by omega
          have c2 : (i : Int) + (n : Int) ≤ (s.size : Int) := by omega
          have c3 : (i : Int) ≤ (i : Int) + (n : Int) := by omega
          have c4 : ((i : Int) + (n : Int)).toNat = i + n := by omega
          clear ht he
          go_wp2_with (at_builtin; go_must (refine wpList_append_own _ rfl (.tmp 88) (.tmp 95) 22 rfl w.heap.size 9 i0 (.string ⟨#[]⟩) 1 16 Tryd.underlying22 hi hz0 hz1 hz2 rfl (by decide) _ _ _ rfl (Hown.out.alloc _) ⟨wo.heap.size, 0, none⟩ 1 1 [.string (s.extract i (i + n))] rfl rfl (cell_one_new _ _ _) (by intro u hu; simp at hu; subst hu; rfl) (by unfold maxLen; omega) (by omega) (by simp; omega) ?_); intro v3 w3 hown3 hgrow3 _)
          have hB3 := (hB.alloc hBs (Obj.cells #[Value.string (s.extract i (i + n))] 9)).grown hgrow3 (by simp; omega) (fun q hq => (Hown.out.lt q hq).1)
          go_roundg (gko - n)
          case measure => omega
          case rel => exact ⟨i + n, acc ++ [s.extract i (i + n)], by omega, by go_num, by simp; omega, by simpa using hown3, by rw [HDi.out, hp.out]; simp, hB3⟩
    · have hi0 : i = s.size := by omega
      have hnl : ¬ (i : Int) < (s.size : Int) := by omega
      have hp : pieces (s.data.toList.drop i) = [] := by rw [List.drop_eq_nil_of_le (by rw [ba_len]; omega)]; rfl
      have hst : Strs wr _ D := Strs.ofRow (base := w.heap.size) (n := acc.length) (by rw [HDi.out, hp, List.append_nil]; exact Hown.out)
      clear hp
      go_wp2_with fail
      go_ret
      exact ⟨_, rfl, hst, hB⟩
end Go.Proofs.YtfkmijdpcenieaaDoor
