/- The document's Patterns: theory; Walks: the document's Patterns; The document's Parse: theory. -/
import Derived.Test.YtejogobhnbjpdaaGreatDoorV3
namespace Go.Proofs.YtejogobhnbjpdaaGreatDoor
set_option linter.unusedVariables false
set_option linter.unusedSimpArgs false
open Go.ChangeShapes Go.WideShapes Go.ChangeAt Go.RowKit

theorem con_sp (c : UInt8) : ([32, 9] : List UInt8).contains c = spN c.toNat := by
  unfold spN
  by_cases e1 : c = 32
  · subst e1; rfl
  by_cases e2 : c = 9
  · subst e2; rfl
  have g1 : c.toNat ≠ 32 := fun h => e1 (UInt8.toNat_inj.1 h)
  have g2 : c.toNat ≠ 9 := fun h => e2 (UInt8.toNat_inj.1 h)
  rw [decide_eq_false (by omega)]
  simp [e1, e2]
theorem ext_drop (s : ByteArray) (i : Nat) : (s.extract i s.size).data.toList = s.data.toList.drop i := by
  rw [Lib.extract_data, List.take_of_length_le]
  rw [List.length_drop, ← Lib.size_eq]; exact Nat.le_refl _
theorem drop_at {s : ByteArray} {i : Nat} (hi : i < s.size) : s.data.toList.drop i = s.get! i :: s.data.toList.drop (i + 1) := by
  have hl : i < s.data.toList.length := by rw [← Lib.size_eq]; exact hi
  have h := byt_list hi
  rw [List.getElem?_eq_getElem hl] at h
  injection h with h
  rw [List.drop_eq_getElem_cons hl, h]
theorem byt_of {s : ByteArray} {j : Nat} {b : UInt8} (h : s.data.toList[j]? = some b) : j < s.size ∧ b.toNat = byt s j := by
  have hjl : j < s.size := by have := (List.getElem?_eq_some_iff.1 h).1; rw [Lib.size_eq]; exact this
  rw [byt_list hjl] at h
  injection h with h
  exact ⟨hjl, by rw [← h]; rfl⟩
theorem ext_ext (s : ByteArray) {a e b c : Nat} (h : c ≤ e - a) : (s.extract a e).extract b c = s.extract (a + b) (a + c) := by
  apply ba_ext
  rw [Lib.extract_data, Lib.extract_data, Lib.extract_data, List.drop_take, List.drop_drop, List.take_take]
  congr 1
  omega
theorem tl_skip {s : ByteArray} {i : Nat} (hi : i < s.size) (hb : spN (byt s i) = true) : trimLB (s.extract i s.size) = trimLB (s.extract (i + 1) s.size) := by
  apply ba_ext
  show Lib.trimLeftS (s.extract i s.size).data.toList [32, 9] = Lib.trimLeftS (s.extract (i + 1) s.size).data.toList [32, 9]
  rw [ext_drop, ext_drop, drop_at hi]
  unfold Lib.trimLeftS
  rw [List.dropWhile_cons_of_pos]
  rw [con_sp]; exact hb
theorem tl_stay {s : ByteArray} {i : Nat} (hi : i < s.size) (hb : spN (byt s i) = false) : trimLB (s.extract i s.size) = s.extract i s.size := by
  have hz : (s.extract i s.size).size = s.size - i := by rw [ByteArray.size_extract]; omega
  rw [trimLB_of (r := s.extract i s.size) (i := 0) (Nat.zero_le _) (fun j hj => by omega) (.inr (by rw [byt_sub (Nat.le_refl _) (by omega), Nat.add_zero]; exact hb)), ext_all]
theorem tl_ns {s : ByteArray} (h : Ns s) : trimLB s = s := by
  by_cases h0 : 0 < s.size
  · have h1 := h h0
    have := tl_stay (s := s) (i := 0) h0 (by
      refine decide_eq_false ?_
      rintro (h2 | h2)
      · exact h1.1 (UInt8.toNat_inj.1 (by rw [← get_is s 0 h0]; exact h2))
      · exact h1.2 (UInt8.toNat_inj.1 (by rw [← get_is s 0 h0]; exact h2)))
    rw [ext_all] at this
    exact this
  · have he : s.data.toList = [] := List.eq_nil_of_length_eq_zero (by rw [← Lib.size_eq]; omega)
    apply ba_ext
    show Lib.trimLeftS s.data.toList [32, 9] = _
    rw [he]; rfl
theorem tl_end (s : ByteArray) : trimLB (s.extract s.size s.size) = ⟨#[]⟩ := by
  apply ba_ext
  show Lib.trimLeftS (s.extract s.size s.size).data.toList [32, 9] = _
  rw [ext_drop, List.drop_of_length_le (by rw [Lib.size_eq]; exact Nat.le_refl _)]
  rfl
theorem ib_at {l : List UInt8} {c : UInt8} {o : Nat} (h : l[o]? = some c) (h1 : ∀ k : Nat, k < o → l[k]? ≠ some c) : Lib.indexByte l c = o := by
  rcases ib_or l c with g | ⟨n, hn, g⟩
  · exact absurd h (Lib.indexByte_none g o)
  · obtain ⟨a, b⟩ := Lib.indexByte_some g
    rcases Nat.lt_trichotomy n o with q | q | q
    · exact absurd a (h1 n q)
    · rw [g, q]
    · exact absurd h (b o q)
theorem ib_no {l : List UInt8} {c : UInt8} (h1 : ∀ k : Nat, l[k]? ≠ some c) : Lib.indexByte l c = -1 := by
  rcases ib_or l c with g | ⟨n, hn, g⟩
  · exact g
  · exact absurd (Lib.indexByte_some g).1 (h1 n)
theorem pats_end {t : ByteArray} {L : List ByteArray} (h : t.size = 0) : patsGo t L = some L := by rw [patsGo, dif_neg (by omega)]
theorem head_byt {s : ByteArray} {i : Nat} (hi : i < s.size) (h0 : 0 < (s.extract i s.size).size) : ((s.extract i s.size)[0]'h0).toNat = byt s i := by
  have h := byt_sub (s := s) (a := i) (e := s.size) (j := 0) (Nat.le_refl _) (by omega)
  rw [Nat.add_zero] at h
  rw [← h]; unfold byt; rw [get_is _ 0 h0]
theorem word_at {s : ByteArray} {i k : Nat} (hi : i < s.size) (hik : i ≤ k) (hks : k ≤ s.size) (h1 : ∀ j, i ≤ j → j < k → spN (byt s j) = false) (h2 : k = s.size ∨ (k < s.size ∧ spN (byt s k) = true)) : wordN (s.extract i s.size) = k - i := by
  have hz : (s.extract i s.size).size = s.size - i := by rw [ByteArray.size_extract]; omega
  have hno : Lib.NoAny (s.extract i s.size).data.toList [32, 9] (k - i) := fun j b hj hb => by
    obtain ⟨g1, g2⟩ := byt_of hb
    rw [con_sp, g2, byt_sub (Nat.le_refl _) (by omega)]
    exact h1 _ (by omega) (by omega)
  unfold wordN
  rcases h2 with h2 | h2
  · have hl : (s.extract i s.size).data.toList.length = k - i := by rw [← Lib.size_eq, hz, h2]
    rw [Lib.indexAny_none (by rw [hl]; exact hno), if_pos (by decide), hz, h2]
  · obtain ⟨hks2, h2⟩ := h2
    have hb := byt_list (s := s.extract i s.size) (i := k - i) (by omega)
    rw [Lib.indexAny_hit hno hb (by
      rw [con_sp]
      show spN (byt (s.extract i s.size) (k - i)) = true
      rw [byt_sub (Nat.le_refl _) (by omega), show i + (k - i) = k by omega]; exact h2)]
    rw [if_neg (by omega)]; rfl
theorem pats_word {s : ByteArray} {i k : Nat} {L : List ByteArray} (hi : i < s.size) (hb : spN (byt s i) = false) (h34 : byt s i ≠ 34) (h96 : byt s i ≠ 96) (hik : i < k) (hks : k ≤ s.size) (h1 : ∀ j, i < j → j < k → spN (byt s j) = false) (h2 : k = s.size ∨ (k < s.size ∧ spN (byt s k) = true)) :
    patsGo (trimLB (s.extract i s.size)) L = patsGo (trimLB (s.extract k s.size)) (L ++ [s.extract i k]) := by
  have hz : (s.extract i s.size).size = s.size - i := by rw [ByteArray.size_extract]; omega
  have h0 : 0 < (s.extract i s.size).size := by omega
  have hh := head_byt hi h0
  have hw := word_at hi (by omega) hks (fun j a b => by
    rcases Nat.lt_or_ge i j with h | h
    · exact h1 j h b
    · rw [show j = i by omega]; exact hb) h2
  have hp : patR (s.extract i s.size) ((s.extract i s.size)[0]'h0) = (s.extract i k, s.extract k s.size, true) := by
    unfold patR
    rw [if_pos ⟨fun e => h34 (by rw [← hh, e]; rfl), fun e => h96 (by rw [← hh, e]; rfl)⟩, hw, ext_ext s (by omega), ext_ext s (by omega), Nat.add_zero, hz, show i + (k - i) = k by omega, show i + (s.size - i) = s.size by omega]
  rw [tl_stay hi hb]
  rw [patsGo, dif_pos h0, hp, if_pos rfl, dif_pos]
  have := trimLB_size (s.extract k s.size)
  rw [ByteArray.size_extract] at this
  show (trimLB (s.extract k s.size)).size < _
  omega
/-- Where a quote stands for the second time. -/
theorem cut_at {s : ByteArray} {i k : Nat} {c : UInt8} (hik : i < k) (hks : k < s.size) (hc : c.toNat = byt s k) (h1 : ∀ j, i < j → j < k → byt s j ≠ c.toNat) : cutR (s.extract (i + 1) s.size) c = (s.extract (i + 1) k, s.extract (k + 1) s.size, true) := by
  have hz : (s.extract (i + 1) s.size).size = s.size - (i + 1) := by rw [ByteArray.size_extract]; omega
  have hb := byt_list (s := s.extract (i + 1) s.size) (i := k - (i + 1)) (by omega)
  have hbb := byt_sub (s := s) (a := i + 1) (e := s.size) (j := k - (i + 1)) (Nat.le_refl _) (by omega)
  rw [show i + 1 + (k - (i + 1)) = k by omega] at hbb
  have e : (s.extract (i + 1) s.size).get! (k - (i + 1)) = c := UInt8.toNat_inj.1 (by rw [hc]; exact hbb)
  rw [e] at hb
  have hi := ib_at hb (fun j hj h => by
    obtain ⟨g1, g2⟩ := byt_of h
    rw [byt_sub (Nat.le_refl _) (by omega)] at g2
    exact h1 (i + 1 + j) (by omega) (by omega) g2.symm)
  unfold cutR
  rw [hi, if_neg (by omega), Int.toNat_natCast, ext_ext s (by omega), ext_ext s (by omega), Nat.add_zero, hz, show i + 1 + (k - (i + 1)) = k by omega, show i + 1 + (k - (i + 1) + 1) = k + 1 by omega, show i + 1 + (s.size - (i + 1)) = s.size by omega]
theorem cut_open {s : ByteArray} {i : Nat} {c : UInt8} (h1 : ∀ j, i < j → j < s.size → byt s j ≠ c.toNat) : (cutR (s.extract (i + 1) s.size) c).2.2 = false := by
  have hi := ib_no (l := (s.extract (i + 1) s.size).data.toList) (c := c) (fun j h => by
    obtain ⟨g1, g2⟩ := byt_of h
    rw [ByteArray.size_extract] at g1
    rw [byt_sub (Nat.le_refl _) (by omega)] at g2
    exact h1 (i + 1 + j) (by omega) (by omega) g2.symm)
  unfold cutR
  rw [hi, if_pos (by decide)]
theorem sp_end (s : ByteArray) {k : Nat} (h : s.size ≤ k) : startsSp (s.extract k s.size) = true := by
  unfold startsSp
  rw [dif_neg (by rw [ByteArray.size_extract]; omega)]
theorem sp_at {s : ByteArray} {k : Nat} (h : k < s.size) : startsSp (s.extract k s.size) = spN (byt s k) := by
  have h0 : 0 < (s.extract k s.size).size := by rw [ByteArray.size_extract]; omega
  have hh := head_byt h h0
  unfold startsSp spN
  rw [dif_pos h0, ← hh, ← Bool.decide_or]
  apply decide_eq_decide.2
  constructor
  · rintro (e | e)
    · exact .inl (by rw [e]; rfl)
    · exact .inr (by rw [e]; rfl)
  · rintro (e | e)
    · exact .inl (UInt8.toNat_inj.1 e)
    · exact .inr (UInt8.toNat_inj.1 e)
theorem sp_quote {n : Nat} (h : n = 34 ∨ n = 96) : spN n = false := by
  rcases h with rfl | rfl <;> rfl
theorem pats_quote {s : ByteArray} {i k : Nat} {L : List ByteArray} (hi : i < s.size) (hq : byt s i = 34 ∨ byt s i = 96) (hik : i < k) (hks : k < s.size) (h1 : ∀ j, i < j → j < k → byt s j ≠ byt s i) (h2 : byt s k = byt s i) :
    patsGo (trimLB (s.extract i s.size)) L = if startsSp (s.extract (k + 1) s.size) = true then patsGo (trimLB (s.extract (k + 1) s.size)) (L ++ [s.extract (i + 1) k]) else none := by
  have hz : (s.extract i s.size).size = s.size - i := by rw [ByteArray.size_extract]; omega
  have h0 : 0 < (s.extract i s.size).size := by omega
  have hh := head_byt hi h0
  have hc := cut_at (c := (s.extract i s.size)[0]'h0) hik hks (hh.trans h2.symm) (fun j a b => by rw [hh]; exact h1 j a b)
  have hp : patR (s.extract i s.size) ((s.extract i s.size)[0]'h0) = if startsSp (s.extract (k + 1) s.size) = true then (s.extract (i + 1) k, s.extract (k + 1) s.size, true) else (⟨#[]⟩, ⟨#[]⟩, false) := by
    unfold patR
    rw [if_neg (by
      rintro ⟨a, b⟩
      rcases hq with hq | hq
      · exact a (UInt8.toNat_inj.1 (hh.trans hq))
      · exact b (UInt8.toNat_inj.1 (hh.trans hq))), ext_ext s (by omega), hz, show i + (s.size - i) = s.size by omega, hc]
    simp only [true_and]
  rw [tl_stay hi (sp_quote hq), patsGo, dif_pos h0, hp]
  by_cases hs : startsSp (s.extract (k + 1) s.size) = true
  · rw [if_pos hs, if_pos hs, if_pos rfl, dif_pos]
    have := trimLB_size (s.extract (k + 1) s.size)
    rw [ByteArray.size_extract] at this
    show (trimLB (s.extract (k + 1) s.size)).size < _
    omega
  · rw [if_neg hs, if_neg hs, if_neg Bool.noConfusion]
theorem pats_open {s : ByteArray} {i : Nat} {L : List ByteArray} (hi : i < s.size) (hq : byt s i = 34 ∨ byt s i = 96) (h1 : ∀ j, i < j → j < s.size → byt s j ≠ byt s i) :
    patsGo (trimLB (s.extract i s.size)) L = none := by
  have hz : (s.extract i s.size).size = s.size - i := by rw [ByteArray.size_extract]; omega
  have h0 : 0 < (s.extract i s.size).size := by omega
  have hh := head_byt hi h0
  have hc := cut_open (s := s) (i := i) (c := (s.extract i s.size)[0]'h0) (fun j a b => by rw [hh]; exact h1 j a b)
  have hp : (patR (s.extract i s.size) ((s.extract i s.size)[0]'h0)).2.2 = false := by
    unfold patR
    rw [if_neg (by
      rintro ⟨a, b⟩
      rcases hq with hq | hq
      · exact a (UInt8.toNat_inj.1 (hh.trans hq))
      · exact b (UInt8.toNat_inj.1 (hh.trans hq))), ext_ext s (by omega), hz, show i + (s.size - i) = s.size by omega, if_neg (by rw [hc]; exact fun h => Bool.noConfusion h.1)]
  rw [tl_stay hi (sp_quote hq), patsGo, dif_pos h0, if_neg (by rw [hp]; decide)]
end Go.Proofs.YtejogobhnbjpdaaGreatDoor
namespace Go.Proofs.YtejogobhnbjpdaaGreatDoor
set_option linter.unusedVariables false
set_option linter.unusedSimpArgs false
open Go.ChangeShapes Go.WideShapes Go.ChangeAt Go.RowKit

set_option maxRecDepth 100000 in
set_option maxHeartbeats 8000000 in
theorem dpats_any (s : ByteArray) (w : World) (hs : s.size ≤ 1048576) (hn : Ns s) :
    Calls Tryz.prog 19 #[.string s] w fun e w' => ((∃ L v', patsGo s [] = some L ∧ e = .returned (.tuple #[v', .bool (decide (0 < L.length))]) ∧ LAt 1 strV w' v' L ∧ L.length ≤ 1048576 ∧ ∀ x ∈ L, x.size ≤ 1048576) ∨ (patsGo s [] = none ∧ e = .returned (.tuple #[.slice none 0 0, .bool false]))) ∧ Below w.heap.size w w' := by
  obtain ⟨ans, hans⟩ : ∃ ans, patsGo s [] = ans := ⟨_, rfl⟩
  have HP0 := Lib.hid (show ans = patsGo (trimLB (s.extract 0 s.size)) [] from by rw [← hans, ext_all, tl_ns hn])
  rw [hans]
  clear hans
  have HSK := Lib.hid (fun i hi hb => tl_skip (s := s) (i := i) hi hb)
  have HWD := Lib.hid (fun i k L a1 a2 a3 a4 a5 a6 a7 a8 => pats_word (s := s) (i := i) (k := k) (L := L) a1 a2 a3 a4 a5 a6 a7 a8)
  have HQT := Lib.hid (fun i k L a1 a2 a3 a4 a5 a6 => pats_quote (s := s) (i := i) (k := k) (L := L) a1 a2 a3 a4 a5 a6)
  have HOP := Lib.hid (fun i L a1 a2 a3 => pats_open (s := s) (i := i) (L := L) a1 a2 a3)
  go_enter Tryz.func19, Tryz.ntmps19
  go_wp2_with fail
  go_loopg [4, 5] s.size (fun g vo iv wr => ∃ (i : Nat) (L : List ByteArray), i + g = s.size ∧ iv = .int .i64 i ∧ L.length ≤ i ∧ Hid (wr.ownsRow w.heap.size 9 1 vo L.length (LF strV L)) ∧ Hid (ans = patsGo (trimLB (s.extract i s.size)) L) ∧ Hid (∀ x ∈ L, x.size ≤ 1048576) ∧ Hid (Below w.heap.size w wr))
  case atStart => exact ⟨0, [], by omega, rfl, Nat.le_refl _, Lib.hid ⟨rfl, .inl ⟨rfl, rfl⟩⟩, HP0, Lib.hid (by simp), Lib.hid (Below.refl _ _)⟩
  case round =>
    obtain ⟨i, L, hig, rfl, hlen, HO, HE, HS, HB⟩ := hrel
    obtain ⟨pP, cP, rfl⟩ := own_shape HO.out
    by_cases hi : i < s.size
    case neg =>
      have hiI : ¬ (i : Int) < (s.size : Int) := by omega
      have HE2 := Lib.hid (show ans = some L from by
        rw [HE.out, show i = s.size by omega, tl_end, pats_end rfl])
      have hdc : decide (0 < (L.length : Int)) = decide (0 < L.length) := by
        by_cases h : 0 < L.length
        · rw [decide_eq_true h]; exact decide_eq_true (by omega)
        · rw [decide_eq_false h]; exact decide_eq_false (by omega)
      go_wp2_with fail
      all_goals go_ret2
      all_goals exact ⟨.inl ⟨L, HE2.out, _, by first | rfl | rw [← hdc]; rfl | (rw [← hdc]; simp_all), LAt.own (fun y _ => strV_len y) HO.out, by omega, HS.out⟩, HB.out⟩
    have hiI : (i : Int) < (s.size : Int) := by omega
    obtain ⟨y, hy⟩ : ∃ y, s[i]'hi = y := ⟨_, rfl⟩
    have hyb : y.toNat = byt s i := by rw [← hy]; unfold byt; rw [get_is s i hi]
    have Hyb := Lib.hid hyb
    have k1 : ((y.toNat : Int) == 32) = decide (y = 32) := u8_eqb y 32
    have k2 : ((y.toNat : Int) == 9) = decide (y = 9) := u8_eqb y 9
    have k3 : ((y.toNat : Int) == 34) = decide (y = 34) := u8_eqb y 34
    have k4 : ((y.toNat : Int) == 96) = decide (y = 96) := u8_eqb y 96
    by_cases y1 : y = 32
    · rw [decide_eq_true y1] at k1
      have HR := Lib.hid (HE.out.trans (congrArg (fun z => patsGo z L) (HSK.out i hi (by rw [← hyb, y1]; rfl))))
      clear k2 k3 k4 y1 hyb
      go_wp2_with fail
      go_roundg (gk - 1)
      case measure => omega
      case rel => exact ⟨i + 1, L, by omega, by go_num, by omega, HO, HR, HS, HB⟩
    rw [decide_eq_false y1] at k1
    by_cases y2 : y = 9
    · rw [decide_eq_true y2] at k2
      have HR := Lib.hid (HE.out.trans (congrArg (fun z => patsGo z L) (HSK.out i hi (by rw [← hyb, y2]; rfl))))
      clear k3 k4 y1 y2 hyb
      go_wp2_with fail
      go_roundg (gk - 1)
      case measure => omega
      case rel => exact ⟨i + 1, L, by omega, by go_num, by omega, HO, HR, HS, HB⟩
    rw [decide_eq_false y2] at k2
    by_cases y3 : y = 34
    · rw [decide_eq_true y3] at k3
      have hq : byt s i = 34 ∨ byt s i = 96 := .inl (by rw [← hyb, y3]; rfl)
      clear k4 y1 y2 y3 hyb
      go_wp2_with fail
      obtain ⟨gko, rfl⟩ : ∃ gko : Nat, gko = gk := ⟨_, rfl⟩
      obtain ⟨wo, rfl⟩ : ∃ wo : World, wo = wr := ⟨_, rfl⟩
      go_loopg [6] (s.size - (i + 1)) (fun g kv wz => ∃ k : Nat, k + g = s.size ∧ i < k ∧ kv = .int .i64 k ∧ Hid (∀ j, i < j → j < k → byt s j ≠ byt s i) ∧ Hid (wz.ownsRow w.heap.size 9 1 (.slice pP L.length cP) L.length (LF strV L)) ∧ Hid (Below w.heap.size w wz))
      case atStart => exact ⟨i + 1, by omega, by omega, by go_num, Lib.hid (fun j a b => by omega), HO, HB⟩
      case round =>
        obtain ⟨k, hkg, hik, rfl, HK, HOz, HBz⟩ := hrel
        by_cases hk : k < s.size
        case neg =>
          have hkI : ¬ (k : Int) < (s.size : Int) := by omega
          have hke : ((k : Int) == (s.size : Int)) = true := beq_iff_eq.2 (by omega)
          have HR := Lib.hid (HE.out.trans (HOP.out i L hi hq (fun j a b => HK.out j a (by omega))))
          go_wp2_with fail
          go_quiet (fail)
          go_wp2_with fail
          go_ret2
          exact ⟨.inr ⟨HR.out, rfl⟩, below_drewN HBz.out _⟩
        have hkI : (k : Int) < (s.size : Int) := by omega
        have hke : ((k : Int) == (s.size : Int)) = false := beq_eq_false_iff_ne.2 (by omega)
        obtain ⟨z, hz⟩ : ∃ z, s[k]'hk = z := ⟨_, rfl⟩
        have hzb : z.toNat = byt s k := by rw [← hz]; unfold byt; rw [get_is s k hk]
        have kz : ((z.toNat : Int) == (y.toNat : Int)) = decide (z = y) := u8_eqb z y
        by_cases hzy : z = y
        case neg =>
          rw [decide_eq_false hzy] at kz
          have kzn := ne_of_eqb kz
          have HK2 := Lib.hid (show ∀ j, i < j → j < k + 1 → byt s j ≠ byt s i from fun j a b => by
            rcases Nat.lt_or_ge j k with h | h
            · exact HK.out j a h
            · rw [show j = k by omega, ← hzb, ← Hyb.out]; exact fun e => hzy (UInt8.toNat_inj.1 e))
          clear hzy hzb
          go_wp2_with fail
          go_quiet (fail)
          go_wp2_with fail
          go_roundg (gk - 1)
          case measure => omega
          case rel => exact ⟨k + 1, by omega, by omega, by go_num, HK2, Lib.hid (gen_own_below HOz.out (below_drewN (Below.refl _ _) _)), Lib.hid (below_drewN HBz.out _)⟩
        rw [decide_eq_true hzy] at kz
        have kzn := ne_of_eqb kz
        have HR := Lib.hid (HE.out.trans (HQT.out i k L hi hq hik hk HK.out (by rw [← hzb, ← Hyb.out, hzy])))
        have hik1 : (i : Int) + 1 ≤ (k : Int) := by omega
        have hkS : (k : Int) ≤ (s.size : Int) := by omega
        clear hzy hzb
        by_cases hk1 : k + 1 < s.size
        case neg =>
          have hk1I : ¬ (k : Int) + 1 < (s.size : Int) := by omega
          have HR2 := Lib.hid (HR.out.trans (if_pos (sp_end s (by omega))))
          go_wp2_with fail
          go_quiet (fail)
          have HB2 := Lib.hid (below_drewN HBz.out nq)
          have HO2 := Lib.hid (gen_own_below HOz.out (below_drewN (Below.refl _ _) nq))
          generalize wr.drewN nq = w3 at *
          go_wp2_with (first | (at_builtin; go_must (refine wpList_append_gen eltS rfl (.tmp 54) (.tmp 60) rfl rfl w.heap.size _ L rfl (gen_own_below HO2.out ((Below.refl _ _).alloc (Nat.le_refl _) _)) _ [s.extract (i + 1) k] (LAt.block rfl rfl (heap_alloc_new _ _)) rfl (by simp only [List.length_cons, List.length_nil]; omega) (by unfold maxLen; simp only [List.length_cons, List.length_nil]; omega) (by have := HB2.out.size; simp; omega) ?_); intro va wa hoa hga))
          have hBb := (HB2.out.alloc HB2.out.size (.cells #[.string (s.extract (i + 1) k)] 9)).grown hga (by have := HB2.out.size; simp at this ⊢; omega) (fun k hk => (HO2.out.lt k hk).1)
          have HBb := Lib.hid hBb
          have Hoa := Lib.hid hoa
          have HS2 := Lib.hid (show ∀ x ∈ L ++ [s.extract (i + 1) k], x.size ≤ 1048576 from fun x hx => by
            rcases List.mem_append.1 hx with h | h
            · exact HS.out x h
            · rw [List.mem_singleton.1 h]; exact Nat.le_trans (ext_size _ _ _) hs)
          clear hBb hoa hga
          clear hik1 hkS hz hkI hke kz kzn
          go_wp2_with fail
          go_roundg (gko - (k + 1 - i))
          case measure => omega
          case rel => exact ⟨k + 1, L ++ [s.extract (i + 1) k], by omega, by go_num, by simp; omega, Hoa, HR2, HS2, HBb⟩
        have hk1I : (k : Int) + 1 < (s.size : Int) := by omega
        obtain ⟨x, hx⟩ : ∃ x, s[k + 1]'hk1 = x := ⟨_, rfl⟩
        have hxb : x.toNat = byt s (k + 1) := by rw [← hx]; unfold byt; rw [get_is s _ hk1]
        have hsp := sp_at hk1
        rw [← hxb] at hsp
        have kx1 : ((x.toNat : Int) == 32) = decide (x = 32) := u8_eqb x 32
        have kx2 : ((x.toNat : Int) == 9) = decide (x = 9) := u8_eqb x 9
        by_cases x1 : x = 32
        · rw [decide_eq_true x1] at kx1
          have kx1n := ne_of_eqb kx1
          have HR2 := Lib.hid (HR.out.trans (if_pos (hsp.trans (by rw [x1]; rfl))))
          clear kx2 x1 hsp hxb
          go_wp2_with fail
          go_quiet (fail)
          have HB2 := Lib.hid (below_drewN HBz.out nq)
          have HO2 := Lib.hid (gen_own_below HOz.out (below_drewN (Below.refl _ _) nq))
          generalize wr.drewN nq = w3 at *
          go_wp2_with (first | (at_builtin; go_must (refine wpList_append_gen eltS rfl (.tmp 54) (.tmp 60) rfl rfl w.heap.size _ L rfl (gen_own_below HO2.out ((Below.refl _ _).alloc (Nat.le_refl _) _)) _ [s.extract (i + 1) k] (LAt.block rfl rfl (heap_alloc_new _ _)) rfl (by simp only [List.length_cons, List.length_nil]; omega) (by unfold maxLen; simp only [List.length_cons, List.length_nil]; omega) (by have := HB2.out.size; simp; omega) ?_); intro va wa hoa hga))
          have hBb := (HB2.out.alloc HB2.out.size (.cells #[.string (s.extract (i + 1) k)] 9)).grown hga (by have := HB2.out.size; simp at this ⊢; omega) (fun k hk => (HO2.out.lt k hk).1)
          have HBb := Lib.hid hBb
          have Hoa := Lib.hid hoa
          have HS2 := Lib.hid (show ∀ x ∈ L ++ [s.extract (i + 1) k], x.size ≤ 1048576 from fun x hx => by
            rcases List.mem_append.1 hx with h | h
            · exact HS.out x h
            · rw [List.mem_singleton.1 h]; exact Nat.le_trans (ext_size _ _ _) hs)
          clear hBb hoa hga
          go_wp2_with fail
          go_roundg (gko - (k + 1 - i))
          case measure => omega
          case rel => exact ⟨k + 1, L ++ [s.extract (i + 1) k], by omega, by go_num, by simp; omega, Hoa, HR2, HS2, HBb⟩
        by_cases x2 : x = 9
        · rw [decide_eq_false x1] at kx1
          rw [decide_eq_true x2] at kx2
          have kx1n := ne_of_eqb kx1
          have kx2n := ne_of_eqb kx2
          have HR2 := Lib.hid (HR.out.trans (if_pos (hsp.trans (by rw [x2]; rfl))))
          clear x1 x2 hsp hxb
          go_wp2_with fail
          go_quiet (fail)
          have HB2 := Lib.hid (below_drewN HBz.out nq)
          have HO2 := Lib.hid (gen_own_below HOz.out (below_drewN (Below.refl _ _) nq))
          generalize wr.drewN nq = w3 at *
          go_wp2_with (first | (at_builtin; go_must (refine wpList_append_gen eltS rfl (.tmp 54) (.tmp 60) rfl rfl w.heap.size _ L rfl (gen_own_below HO2.out ((Below.refl _ _).alloc (Nat.le_refl _) _)) _ [s.extract (i + 1) k] (LAt.block rfl rfl (heap_alloc_new _ _)) rfl (by simp only [List.length_cons, List.length_nil]; omega) (by unfold maxLen; simp only [List.length_cons, List.length_nil]; omega) (by have := HB2.out.size; simp; omega) ?_); intro va wa hoa hga))
          have hBb := (HB2.out.alloc HB2.out.size (.cells #[.string (s.extract (i + 1) k)] 9)).grown hga (by have := HB2.out.size; simp at this ⊢; omega) (fun k hk => (HO2.out.lt k hk).1)
          have HBb := Lib.hid hBb
          have Hoa := Lib.hid hoa
          have HS2 := Lib.hid (show ∀ x ∈ L ++ [s.extract (i + 1) k], x.size ≤ 1048576 from fun x hx => by
            rcases List.mem_append.1 hx with h | h
            · exact HS.out x h
            · rw [List.mem_singleton.1 h]; exact Nat.le_trans (ext_size _ _ _) hs)
          clear hBb hoa hga
          go_wp2_with fail
          go_roundg (gko - (k + 1 - i))
          case measure => omega
          case rel => exact ⟨k + 1, L ++ [s.extract (i + 1) k], by omega, by go_num, by simp; omega, Hoa, HR2, HS2, HBb⟩
        have HR2 := Lib.hid (HR.out.trans (if_neg (by
          rw [hsp, show spN x.toNat = false from decide_eq_false (by
            rintro (h | h)
            · exact x1 (UInt8.toNat_inj.1 h)
            · exact x2 (UInt8.toNat_inj.1 h))]
          decide)))
        rw [decide_eq_false x1] at kx1
        rw [decide_eq_false x2] at kx2
        have kx1n := ne_of_eqb kx1
        have kx2n := ne_of_eqb kx2
        clear x1 x2 hsp hxb
        go_wp2_with fail
        go_quiet (fail)
        have HB2 := Lib.hid (below_drewN HBz.out nq)
        have HO2 := Lib.hid (gen_own_below HOz.out (below_drewN (Below.refl _ _) nq))
        generalize wr.drewN nq = w3 at *
        go_wp2_with (first | (at_builtin; go_must (refine wpList_append_gen eltS rfl (.tmp 54) (.tmp 60) rfl rfl w.heap.size _ L rfl (gen_own_below HO2.out ((Below.refl _ _).alloc (Nat.le_refl _) _)) _ [s.extract (i + 1) k] (LAt.block rfl rfl (heap_alloc_new _ _)) rfl (by simp only [List.length_cons, List.length_nil]; omega) (by unfold maxLen; simp only [List.length_cons, List.length_nil]; omega) (by have := HB2.out.size; simp; omega) ?_); intro va wa hoa hga))
        have hBb := (HB2.out.alloc HB2.out.size (.cells #[.string (s.extract (i + 1) k)] 9)).grown hga (by have := HB2.out.size; simp at this ⊢; omega) (fun k hk => (HO2.out.lt k hk).1)
        have HBb := Lib.hid hBb
        have Hoa := Lib.hid hoa
        have HS2 := Lib.hid (show ∀ x ∈ L ++ [s.extract (i + 1) k], x.size ≤ 1048576 from fun x hx => by
          rcases List.mem_append.1 hx with h | h
          · exact HS.out x h
          · rw [List.mem_singleton.1 h]; exact Nat.le_trans (ext_size _ _ _) hs)
        clear hBb hoa hga
        go_wp2_with fail
        go_ret2
        exact ⟨.inr ⟨HR2.out, rfl⟩, HBb.out⟩
    rw [decide_eq_false y3] at k3
    by_cases y4 : y = 96
    · rw [decide_eq_true y4] at k4
      have hq : byt s i = 34 ∨ byt s i = 96 := .inr (by rw [← hyb, y4]; rfl)
      clear y1 y2 y3 y4 hyb
      go_wp2_with fail
      obtain ⟨gko, rfl⟩ : ∃ gko : Nat, gko = gk := ⟨_, rfl⟩
      obtain ⟨wo, rfl⟩ : ∃ wo : World, wo = wr := ⟨_, rfl⟩
      go_loopg [6] (s.size - (i + 1)) (fun g kv wz => ∃ k : Nat, k + g = s.size ∧ i < k ∧ kv = .int .i64 k ∧ Hid (∀ j, i < j → j < k → byt s j ≠ byt s i) ∧ Hid (wz.ownsRow w.heap.size 9 1 (.slice pP L.length cP) L.length (LF strV L)) ∧ Hid (Below w.heap.size w wz))
      case atStart => exact ⟨i + 1, by omega, by omega, by go_num, Lib.hid (fun j a b => by omega), HO, HB⟩
      case round =>
        obtain ⟨k, hkg, hik, rfl, HK, HOz, HBz⟩ := hrel
        by_cases hk : k < s.size
        case neg =>
          have hkI : ¬ (k : Int) < (s.size : Int) := by omega
          have hke : ((k : Int) == (s.size : Int)) = true := beq_iff_eq.2 (by omega)
          have HR := Lib.hid (HE.out.trans (HOP.out i L hi hq (fun j a b => HK.out j a (by omega))))
          go_wp2_with fail
          go_quiet (fail)
          go_wp2_with fail
          go_ret2
          exact ⟨.inr ⟨HR.out, rfl⟩, below_drewN HBz.out _⟩
        have hkI : (k : Int) < (s.size : Int) := by omega
        have hke : ((k : Int) == (s.size : Int)) = false := beq_eq_false_iff_ne.2 (by omega)
        obtain ⟨z, hz⟩ : ∃ z, s[k]'hk = z := ⟨_, rfl⟩
        have hzb : z.toNat = byt s k := by rw [← hz]; unfold byt; rw [get_is s k hk]
        have kz : ((z.toNat : Int) == (y.toNat : Int)) = decide (z = y) := u8_eqb z y
        by_cases hzy : z = y
        case neg =>
          rw [decide_eq_false hzy] at kz
          have kzn := ne_of_eqb kz
          have HK2 := Lib.hid (show ∀ j, i < j → j < k + 1 → byt s j ≠ byt s i from fun j a b => by
            rcases Nat.lt_or_ge j k with h | h
            · exact HK.out j a h
            · rw [show j = k by omega, ← hzb, ← Hyb.out]; exact fun e => hzy (UInt8.toNat_inj.1 e))
          clear hzy hzb
          go_wp2_with fail
          go_quiet (fail)
          go_wp2_with fail
          go_roundg (gk - 1)
          case measure => omega
          case rel => exact ⟨k + 1, by omega, by omega, by go_num, HK2, Lib.hid (gen_own_below HOz.out (below_drewN (Below.refl _ _) _)), Lib.hid (below_drewN HBz.out _)⟩
        rw [decide_eq_true hzy] at kz
        have kzn := ne_of_eqb kz
        have HR := Lib.hid (HE.out.trans (HQT.out i k L hi hq hik hk HK.out (by rw [← hzb, ← Hyb.out, hzy])))
        have hik1 : (i : Int) + 1 ≤ (k : Int) := by omega
        have hkS : (k : Int) ≤ (s.size : Int) := by omega
        clear hzy hzb
        by_cases hk1 : k + 1 < s.size
        case neg =>
          have hk1I : ¬ (k : Int) + 1 < (s.size : Int) := by omega
          have HR2 := Lib.hid (HR.out.trans (if_pos (sp_end s (by omega))))
          go_wp2_with fail
          go_quiet (fail)
          have HB2 := Lib.hid (below_drewN HBz.out nq)
          have HO2 := Lib.hid (gen_own_below HOz.out (below_drewN (Below.refl _ _) nq))
          generalize wr.drewN nq = w3 at *
          go_wp2_with (first | (at_builtin; go_must (refine wpList_append_gen eltS rfl (.tmp 54) (.tmp 60) rfl rfl w.heap.size _ L rfl (gen_own_below HO2.out ((Below.refl _ _).alloc (Nat.le_refl _) _)) _ [s.extract (i + 1) k] (LAt.block rfl rfl (heap_alloc_new _ _)) rfl (by simp only [List.length_cons, List.length_nil]; omega) (by unfold maxLen; simp only [List.length_cons, List.length_nil]; omega) (by have := HB2.out.size; simp; omega) ?_); intro va wa hoa hga))
          have hBb := (HB2.out.alloc HB2.out.size (.cells #[.string (s.extract (i + 1) k)] 9)).grown hga (by have := HB2.out.size; simp at this ⊢; omega) (fun k hk => (HO2.out.lt k hk).1)
          have HBb := Lib.hid hBb
          have Hoa := Lib.hid hoa
          have HS2 := Lib.hid (show ∀ x ∈ L ++ [s.extract (i + 1) k], x.size ≤ 1048576 from fun x hx => by
            rcases List.mem_append.1 hx with h | h
            · exact HS.out x h
            · rw [List.mem_singleton.1 h]; exact Nat.le_trans (ext_size _ _ _) hs)
          clear hBb hoa hga
          clear hik1 hkS hz hkI hke kz kzn
          go_wp2_with fail
          go_roundg (gko - (k + 1 - i))
          case measure => omega
          case rel => exact ⟨k + 1, L ++ [s.extract (i + 1) k], by omega, by go_num, by simp; omega, Hoa, HR2, HS2, HBb⟩
        have hk1I : (k : Int) + 1 < (s.size : Int) := by omega
        obtain ⟨x, hx⟩ : ∃ x, s[k + 1]'hk1 = x := ⟨_, rfl⟩
        have hxb : x.toNat = byt s (k + 1) := by rw [← hx]; unfold byt; rw [get_is s _ hk1]
        have hsp := sp_at hk1
        rw [← hxb] at hsp
        have kx1 : ((x.toNat : Int) == 32) = decide (x = 32) := u8_eqb x 32
        have kx2 : ((x.toNat : Int) == 9) = decide (x = 9) := u8_eqb x 9
        by_cases x1 : x = 32
        · rw [decide_eq_true x1] at kx1
          have kx1n := ne_of_eqb kx1
          have HR2 := Lib.hid (HR.out.trans (if_pos (hsp.trans (by rw [x1]; rfl))))
          clear kx2 x1 hsp hxb
          go_wp2_with fail
          go_quiet (fail)
          have HB2 := Lib.hid (below_drewN HBz.out nq)
          have HO2 := Lib.hid (gen_own_below HOz.out (below_drewN (Below.refl _ _) nq))
          generalize wr.drewN nq = w3 at *
          go_wp2_with (first | (at_builtin; go_must (refine wpList_append_gen eltS rfl (.tmp 54) (.tmp 60) rfl rfl w.heap.size _ L rfl (gen_own_below HO2.out ((Below.refl _ _).alloc (Nat.le_refl _) _)) _ [s.extract (i + 1) k] (LAt.block rfl rfl (heap_alloc_new _ _)) rfl (by simp only [List.length_cons, List.length_nil]; omega) (by unfold maxLen; simp only [List.length_cons, List.length_nil]; omega) (by have := HB2.out.size; simp; omega) ?_); intro va wa hoa hga))
          have hBb := (HB2.out.alloc HB2.out.size (.cells #[.string (s.extract (i + 1) k)] 9)).grown hga (by have := HB2.out.size; simp at this ⊢; omega) (fun k hk => (HO2.out.lt k hk).1)
          have HBb := Lib.hid hBb
          have Hoa := Lib.hid hoa
          have HS2 := Lib.hid (show ∀ x ∈ L ++ [s.extract (i + 1) k], x.size ≤ 1048576 from fun x hx => by
            rcases List.mem_append.1 hx with h | h
            · exact HS.out x h
            · rw [List.mem_singleton.1 h]; exact Nat.le_trans (ext_size _ _ _) hs)
          clear hBb hoa hga
          go_wp2_with fail
          go_roundg (gko - (k + 1 - i))
          case measure => omega
          case rel => exact ⟨k + 1, L ++ [s.extract (i + 1) k], by omega, by go_num, by simp; omega, Hoa, HR2, HS2, HBb⟩
        by_cases x2 : x = 9
        · rw [decide_eq_false x1] at kx1
          rw [decide_eq_true x2] at kx2
          have kx1n := ne_of_eqb kx1
          have kx2n := ne_of_eqb kx2
          have HR2 := Lib.hid (HR.out.trans (if_pos (hsp.trans (by rw [x2]; rfl))))
          clear x1 x2 hsp hxb
          go_wp2_with fail
          go_quiet (fail)
          have HB2 := Lib.hid (below_drewN HBz.out nq)
          have HO2 := Lib.hid (gen_own_below HOz.out (below_drewN (Below.refl _ _) nq))
          generalize wr.drewN nq = w3 at *
          go_wp2_with (first | (at_builtin; go_must (refine wpList_append_gen eltS rfl (.tmp 54) (.tmp 60) rfl rfl w.heap.size _ L rfl (gen_own_below HO2.out ((Below.refl _ _).alloc (Nat.le_refl _) _)) _ [s.extract (i + 1) k] (LAt.block rfl rfl (heap_alloc_new _ _)) rfl (by simp only [List.length_cons, List.length_nil]; omega) (by unfold maxLen; simp only [List.length_cons, List.length_nil]; omega) (by have := HB2.out.size; simp; omega) ?_); intro va wa hoa hga))
          have hBb := (HB2.out.alloc HB2.out.size (.cells #[.string (s.extract (i + 1) k)] 9)).grown hga (by have := HB2.out.size; simp at this ⊢; omega) (fun k hk => (HO2.out.lt k hk).1)
          have HBb := Lib.hid hBb
          have Hoa := Lib.hid hoa
          have HS2 := Lib.hid (show ∀ x ∈ L ++ [s.extract (i + 1) k], x.size ≤ 1048576 from fun x hx => by
            rcases List.mem_append.1 hx with h | h
            · exact HS.out x h
            · rw [List.mem_singleton.1 h]; exact Nat.le_trans (ext_size _ _ _) hs)
          clear hBb hoa hga
          go_wp2_with fail
          go_roundg (gko - (k + 1 - i))
          case measure => omega
          case rel => exact ⟨k + 1, L ++ [s.extract (i + 1) k], by omega, by go_num, by simp; omega, Hoa, HR2, HS2, HBb⟩
        have HR2 := Lib.hid (HR.out.trans (if_neg (by
          rw [hsp, show spN x.toNat = false from decide_eq_false (by
            rintro (h | h)
            · exact x1 (UInt8.toNat_inj.1 h)
            · exact x2 (UInt8.toNat_inj.1 h))]
          decide)))
        rw [decide_eq_false x1] at kx1
        rw [decide_eq_false x2] at kx2
        have kx1n := ne_of_eqb kx1
        have kx2n := ne_of_eqb kx2
        clear x1 x2 hsp hxb
        go_wp2_with fail
        go_quiet (fail)
        have HB2 := Lib.hid (below_drewN HBz.out nq)
        have HO2 := Lib.hid (gen_own_below HOz.out (below_drewN (Below.refl _ _) nq))
        generalize wr.drewN nq = w3 at *
        go_wp2_with (first | (at_builtin; go_must (refine wpList_append_gen eltS rfl (.tmp 54) (.tmp 60) rfl rfl w.heap.size _ L rfl (gen_own_below HO2.out ((Below.refl _ _).alloc (Nat.le_refl _) _)) _ [s.extract (i + 1) k] (LAt.block rfl rfl (heap_alloc_new _ _)) rfl (by simp only [List.length_cons, List.length_nil]; omega) (by unfold maxLen; simp only [List.length_cons, List.length_nil]; omega) (by have := HB2.out.size; simp; omega) ?_); intro va wa hoa hga))
        have hBb := (HB2.out.alloc HB2.out.size (.cells #[.string (s.extract (i + 1) k)] 9)).grown hga (by have := HB2.out.size; simp at this ⊢; omega) (fun k hk => (HO2.out.lt k hk).1)
        have HBb := Lib.hid hBb
        have Hoa := Lib.hid hoa
        have HS2 := Lib.hid (show ∀ x ∈ L ++ [s.extract (i + 1) k], x.size ≤ 1048576 from fun x hx => by
          rcases List.mem_append.1 hx with h | h
          · exact HS.out x h
          · rw [List.mem_singleton.1 h]; exact Nat.le_trans (ext_size _ _ _) hs)
        clear hBb hoa hga
        go_wp2_with fail
        go_ret2
        exact ⟨.inr ⟨HR2.out, rfl⟩, HBb.out⟩
    rw [decide_eq_false y4] at k4
    have hsp0 : spN (byt s i) = false := decide_eq_false (by
      rw [← hyb]
      rintro (h | h)
      · exact y1 (UInt8.toNat_inj.1 h)
      · exact y2 (UInt8.toNat_inj.1 h))
    have h34 : byt s i ≠ 34 := fun h => y3 (UInt8.toNat_inj.1 (hyb.trans h))
    have h96 : byt s i ≠ 96 := fun h => y4 (UInt8.toNat_inj.1 (hyb.trans h))
    clear y1 y2 y3 y4 hyb
    go_wp2_with fail
    obtain ⟨gko, rfl⟩ : ∃ gko : Nat, gko = gk := ⟨_, rfl⟩
    obtain ⟨wo, rfl⟩ : ∃ wo : World, wo = wr := ⟨_, rfl⟩
    go_loopg [6] (s.size - (i + 1)) (fun g kv wz => ∃ k : Nat, k + g = s.size ∧ i < k ∧ kv = .int .i64 k ∧ Hid (∀ j, i < j → j < k → spN (byt s j) = false) ∧ wz = wo)
    case atStart => exact ⟨i + 1, by omega, by omega, by go_num, Lib.hid (fun j a b => by omega), rfl⟩
    case round =>
      obtain ⟨k, hkg, hik, rfl, HK, rfl⟩ := hrel
      by_cases hk : k < s.size
      case neg =>
        have hkI : ¬ (k : Int) < (s.size : Int) := by omega
        have HR := Lib.hid (HE.out.trans (HWD.out i k L hi hsp0 h34 h96 hik (by omega) HK.out (.inl (by omega))))
        have hik1 : (i : Int) ≤ (k : Int) := by omega
        have hkS : (k : Int) ≤ (s.size : Int) := by omega
        go_wp2_with (first | (at_builtin; go_must (refine wpList_append_gen eltS rfl (.tmp 98) (.tmp 103) rfl rfl w.heap.size _ L rfl (gen_own_below HO.out ((Below.refl _ _).alloc (Nat.le_refl _) _)) _ [s.extract i k] (LAt.block rfl rfl (heap_alloc_new _ _)) rfl (by simp only [List.length_cons, List.length_nil]; omega) (by unfold maxLen; simp only [List.length_cons, List.length_nil]; omega) (by have := HB.out.size; simp; omega) ?_); intro va wa hoa hga))
        have hBb := (HB.out.alloc HB.out.size (.cells #[.string (s.extract i k)] 9)).grown hga (by have := HB.out.size; simp at this ⊢; omega) (fun k hk => (HO.out.lt k hk).1)
        have HBb := Lib.hid hBb
        have Hoa := Lib.hid hoa
        have HS2 := Lib.hid (show ∀ x ∈ L ++ [s.extract i k], x.size ≤ 1048576 from fun x hx => by
          rcases List.mem_append.1 hx with h | h
          · exact HS.out x h
          · rw [List.mem_singleton.1 h]; exact Nat.le_trans (ext_size _ _ _) hs)
        clear hBb hoa hga
        go_wp2_with fail
        go_roundg (gko - (k - i))
        case measure => omega
        case rel => exact ⟨k, L ++ [s.extract i k], by omega, by go_num, by simp; omega, Hoa, HR, HS2, HBb⟩
      have hkI : (k : Int) < (s.size : Int) := by omega
      obtain ⟨z, hz⟩ : ∃ z, s[k]'hk = z := ⟨_, rfl⟩
      have hzb : z.toNat = byt s k := by rw [← hz]; unfold byt; rw [get_is s k hk]
      have kz1 : ((z.toNat : Int) == 32) = decide (z = 32) := u8_eqb z 32
      have kz2 : ((z.toNat : Int) == 9) = decide (z = 9) := u8_eqb z 9
      by_cases z1 : z = 32
      · rw [decide_eq_true z1] at kz1
        have kz1n := ne_of_eqb kz1
        have hsz : spN (byt s k) = true := by rw [← hzb, z1]; rfl
        clear kz2 z1 hzb
        have HR := Lib.hid (HE.out.trans (HWD.out i k L hi hsp0 h34 h96 hik (by omega) HK.out (.inr ⟨hk, hsz⟩)))
        have hik1 : (i : Int) ≤ (k : Int) := by omega
        have hkS : (k : Int) ≤ (s.size : Int) := by omega
        go_wp2_with (first | (at_builtin; go_must (refine wpList_append_gen eltS rfl (.tmp 98) (.tmp 103) rfl rfl w.heap.size _ L rfl (gen_own_below HO.out ((Below.refl _ _).alloc (Nat.le_refl _) _)) _ [s.extract i k] (LAt.block rfl rfl (heap_alloc_new _ _)) rfl (by simp only [List.length_cons, List.length_nil]; omega) (by unfold maxLen; simp only [List.length_cons, List.length_nil]; omega) (by have := HB.out.size; simp; omega) ?_); intro va wa hoa hga))
        have hBb := (HB.out.alloc HB.out.size (.cells #[.string (s.extract i k)] 9)).grown hga (by have := HB.out.size; simp at this ⊢; omega) (fun k hk => (HO.out.lt k hk).1)
        have HBb := Lib.hid hBb
        have Hoa := Lib.hid hoa
        have HS2 := Lib.hid (show ∀ x ∈ L ++ [s.extract i k], x.size ≤ 1048576 from fun x hx => by
          rcases List.mem_append.1 hx with h | h
          · exact HS.out x h
          · rw [List.mem_singleton.1 h]; exact Nat.le_trans (ext_size _ _ _) hs)
        clear hBb hoa hga
        go_wp2_with fail
        go_roundg (gko - (k - i))
        case measure => omega
        case rel => exact ⟨k, L ++ [s.extract i k], by omega, by go_num, by simp; omega, Hoa, HR, HS2, HBb⟩
      by_cases z2 : z = 9
      · rw [decide_eq_false z1] at kz1
        rw [decide_eq_true z2] at kz2
        have kz1n := ne_of_eqb kz1
        have kz2n := ne_of_eqb kz2
        have hsz : spN (byt s k) = true := by rw [← hzb, z2]; rfl
        clear z1 z2 hzb
        have HR := Lib.hid (HE.out.trans (HWD.out i k L hi hsp0 h34 h96 hik (by omega) HK.out (.inr ⟨hk, hsz⟩)))
        have hik1 : (i : Int) ≤ (k : Int) := by omega
        have hkS : (k : Int) ≤ (s.size : Int) := by omega
        go_wp2_with (first | (at_builtin; go_must (refine wpList_append_gen eltS rfl (.tmp 98) (.tmp 103) rfl rfl w.heap.size _ L rfl (gen_own_below HO.out ((Below.refl _ _).alloc (Nat.le_refl _) _)) _ [s.extract i k] (LAt.block rfl rfl (heap_alloc_new _ _)) rfl (by simp only [List.length_cons, List.length_nil]; omega) (by unfold maxLen; simp only [List.length_cons, List.length_nil]; omega) (by have := HB.out.size; simp; omega) ?_); intro va wa hoa hga))
        have hBb := (HB.out.alloc HB.out.size (.cells #[.string (s.extract i k)] 9)).grown hga (by have := HB.out.size; simp at this ⊢; omega) (fun k hk => (HO.out.lt k hk).1)
        have HBb := Lib.hid hBb
        have Hoa := Lib.hid hoa
        have HS2 := Lib.hid (show ∀ x ∈ L ++ [s.extract i k], x.size ≤ 1048576 from fun x hx => by
          rcases List.mem_append.1 hx with h | h
          · exact HS.out x h
          · rw [List.mem_singleton.1 h]; exact Nat.le_trans (ext_size _ _ _) hs)
        clear hBb hoa hga
        go_wp2_with fail
        go_roundg (gko - (k - i))
        case measure => omega
        case rel => exact ⟨k, L ++ [s.extract i k], by omega, by go_num, by simp; omega, Hoa, HR, HS2, HBb⟩
      have HK2 := Lib.hid (show ∀ j, i < j → j < k + 1 → spN (byt s j) = false from fun j a b => by
        rcases Nat.lt_or_ge j k with h | h
        · exact HK.out j a h
        · rw [show j = k by omega, ← hzb]
          refine decide_eq_false ?_
          rintro (h | h)
          · exact z1 (UInt8.toNat_inj.1 h)
          · exact z2 (UInt8.toNat_inj.1 h))
      rw [decide_eq_false z1] at kz1
      rw [decide_eq_false z2] at kz2
      have kz1n := ne_of_eqb kz1
      have kz2n := ne_of_eqb kz2
      clear z1 z2 hzb
      go_wp2_with fail
      go_roundg (gk - 1)
      case measure => omega
      case rel => exact ⟨k + 1, by omega, by omega, by go_num, HK2, rfl⟩
end Go.Proofs.YtejogobhnbjpdaaGreatDoor
namespace Go.Proofs.YtejogobhnbjpdaaGreatDoor
set_option linter.unusedVariables false
set_option linter.unusedSimpArgs false
open Go.ChangeShapes Go.WideShapes Go.ChangeAt Go.RowKit

theorem specR_dropi (L : List Tk) (n i : Nat) : (specR (L.drop n) i).1 = (specR L (n + i)).1 ∧ n + (specR (L.drop n) i).2 = (specR L (n + i)).2 := by
  have h1 := specR_drop (L.drop n) i
  have h2 := specR_drop L (n + i)
  rw [List.drop_drop] at h1
  exact ⟨h1.1.symm.trans h2.1, by omega⟩
def sh3 (n : Nat) (r : Bool × Nat × List Im) : Bool × Nat × List Im := (r.1, n + r.2.1, r.2.2)
theorem specsR_drop (L : List Tk) (n : Nat) (hn : n ≤ L.length) : ∀ (f i : Nat) (I : List Im), L.length - (n + i) ≤ f → specsR L (n + i) I = sh3 n (specsR (L.drop n) i I) := by
  have hd : (L.drop n).length = L.length - n := List.length_drop
  intro f
  induction f with
  | zero =>
    intro i I h
    rw [specsR, dif_neg (by omega), specsR, dif_neg (by omega)]; rfl
  | succ f ih =>
    intro i I h
    by_cases hi : n + i < L.length
    case neg => rw [specsR, dif_neg (by omega), specsR, dif_neg (by omega)]; rfl
    have hi2 : i < (L.drop n).length := by omega
    have hq := specR_dropi L n i
    by_cases hc : tIs 5 ⟨#[41]⟩ (tk L (n + i)) = true
    · rw [specsR_close I hi hc, specsR_close I hi2 (by rw [tk_drop]; exact hc)]; rfl
    · rw [Bool.not_eq_true] at hc
      cases hs : (specR L (n + i)).1 with
      | none =>
        rw [specsR_none I hi hc hs, specsR_none I hi2 (by rw [tk_drop]; exact hc) (hq.1.trans hs), ← hq.2]; rfl
      | some m =>
        have hp := specR_pos (hq.1.trans hs)
        rw [specsR_some I hi hc hs, specsR_some I hi2 (by rw [tk_drop]; exact hc) (hq.1.trans hs), tk_drop, ← hq.2]
        split
        · rw [Nat.add_assoc]; exact ih _ _ (by omega)
        · split
          · exact ih _ _ (by omega)
          · rfl
theorem specs1_drop (L : List Tk) (n i : Nat) (hn : n ≤ L.length) (I : List Im) : specs1 L (n + i) I = sh3 n (specs1 (L.drop n) i I) := by
  unfold specs1
  rw [tk_drop]
  have hq := specR_dropi L n i
  split
  · rw [Nat.add_assoc]; exact specsR_drop L n hn _ _ _ (Nat.le_refl _)
  · rw [← hq.1, ← hq.2]; rfl
theorem declR_drop (L : List Tk) (n : Nat) (hn : n ≤ L.length) : ∀ (f i : Nat) (I : List Im), L.length - (n + i) ≤ f → declR L (n + i) I = sh3 n (declR (L.drop n) i I) := by
  have hd : (L.drop n).length = L.length - n := List.length_drop
  intro f
  induction f with
  | zero =>
    intro i I h
    rw [declR, dif_neg (by omega), declR, dif_neg (by omega)]; rfl
  | succ f ih =>
    intro i I h
    by_cases hi : n + i < L.length
    case neg => rw [declR, dif_neg (by omega), declR, dif_neg (by omega)]; rfl
    have hi2 : i < (L.drop n).length := by omega
    have hq := specs1_drop L n (i + 1) hn I
    have q1 : (specs1 L (n + i + 1) I).1 = (specs1 (L.drop n) (i + 1) I).1 := congrArg (·.1) hq
    have q2 : (specs1 L (n + i + 1) I).2.1 = n + (specs1 (L.drop n) (i + 1) I).2.1 := congrArg (·.2.1) hq
    have q3 : (specs1 L (n + i + 1) I).2.2 = (specs1 (L.drop n) (i + 1) I).2.2 := congrArg (·.2.2) hq
    by_cases hc : tIs 1 wImport (tk L (n + i)) = true
    · have hc2 : tIs 1 wImport (tk (L.drop n) i) = true := by rw [tk_drop]; exact hc
      by_cases hg : i < (specs1 (L.drop n) (i + 1) I).2.1
      · by_cases h1 : (specs1 (L.drop n) (i + 1) I).1 = true
        · rw [declR_on I hi hc (by omega) (q1.trans h1), declR_on I hi2 hc2 hg h1, tk_drop, q2, q3]
          split
          · rw [Nat.add_assoc]; exact ih _ _ (by omega)
          · rfl
        · rw [Bool.not_eq_true] at h1
          rw [declR_bad I hi hc (by omega) (q1.trans h1), declR_bad I hi2 hc2 hg h1, q2, q3]; rfl
      · rw [declR, dif_pos hi, if_pos hc, dif_neg (by omega), declR, dif_pos hi2, if_pos hc2, dif_neg hg]; rfl
    · rw [Bool.not_eq_true] at hc
      rw [declR_end I hi hc, declR_end I hi2 (by rw [tk_drop]; exact hc)]; rfl
theorem declR_three {L : List Tk} (hn : 3 ≤ L.length) : (declR L 3 []).1 = (declR (L.drop 3) 0 []).1 ∧ (declR L 3 []).2.1 = 3 + (declR (L.drop 3) 0 []).2.1 ∧ (declR L 3 []).2.2 = (declR (L.drop 3) 0 []).2.2 := by
  have h := declR_drop L 3 hn _ 0 [] (Nat.le_refl _)
  exact ⟨congrArg (·.1) h, congrArg (·.2.1) h, congrArg (·.2.2) h⟩
/-- Where a semicolon stands or is put. -/
def SemA (s : ByteArray) (q : Nat) : Prop := q = s.size ∨ thing s q = .lf ∨ (∃ e, thing s q = .note e ∧ hasLF s q e = true) ∨ (∃ k e, thing s q = .tok k e)
/-- Where a comment stands. -/
def NoteA (s : ByteArray) (m : Tk) : Prop := m.2.2 < s.size ∧ ∃ e, thing s m.2.2 = .note e ∧ m.2.1 = s.extract m.2.2 e
def AllS (s : ByteArray) (l : List Tk) : Prop := ∀ t ∈ l, t.1 = 6 → SemA s t.2.2
theorem snoc_s {s : ByteArray} {l : List Tk} (h : AllS s l) {x : Tk} (hx : x.1 = 6 → SemA s x.2.2) : AllS s (l ++ [x]) := fun u hu => by
  rcases List.mem_append.1 hu with h1 | h1
  · exact h u h1
  · rw [List.mem_singleton.1 h1]; exact hx
theorem feed_s {s : ByteArray} {l : List Tk} (h : AllS s l) {q : Nat} (hq : SemA s q) : AllS s (feedL l q) := by
  unfold feedL
  cases hl : l.getLast? with
  | none => exact h
  | some t =>
    show AllS s (if endsB t = true then l ++ [(6, (⟨#[]⟩ : ByteArray), q)] else l)
    split
    · exact snoc_s h (fun _ => hq)
    · exact h
theorem lexT_s {s : ByteArray} : ∀ q l m, q ≤ s.size → AllS s l → (∀ t ∈ m, NoteA s t) → AllS s (lexT s q l m).1 ∧ (∀ t ∈ (lexT s q l m).2, NoteA s t) := by
  refine lex_ind s _ ?_ ?_ ?_
  · intro q l m h hq hl hm
    rw [lexT_out h]
    exact ⟨snoc_s (feed_s hl (.inl rfl)) (fun e => absurd (show (0 : Nat) = 6 from e) (by decide)), hm⟩
  · intro q l m f h ht hq hl hm
    rw [lexT_bad h ht]
    exact ⟨snoc_s hl (fun e => absurd (show (7 : Nat) = 6 from e) (by decide)), hm⟩
  · intro q l m h hok ih hq hl hm
    rw [lexT_step h hok]
    have hen := ((thing_ends h).2 hok).2.1
    refine ih hen ?_ ?_
    · cases ht : thing s q with
      | bad f => rw [ht] at hok; cases hok
      | lf => exact feed_s hl (.inr (.inl ht))
      | blank => exact hl
      | note e =>
        show AllS s (if hasLF s q e = true then feedL l q else l)
        split
        · rename_i hh; exact feed_s hl (.inr (.inr (.inl ⟨e, ht, hh⟩)))
        · exact hl
      | tok k e => exact snoc_s hl (fun _ => .inr (.inr (.inr ⟨k, e, ht⟩)))
    · cases ht : thing s q with
      | note e =>
        intro t hh
        rcases List.mem_append.1 hh with h1 | h1
        · exact hm t h1
        · rw [List.mem_singleton.1 h1]; exact ⟨h, e, ht, rfl⟩
      | _ => exact hm
theorem lexL_s (s : ByteArray) : AllS s (lexL s) ∧ (∀ t ∈ lexM s, NoteA s t) := lexT_s _ _ _ (skN_le s) (fun _ h => by cases h) (fun _ h => by cases h)
theorem pre_take {l x : List UInt8} {n : Nat} (h : Lib.hasPrefix (l.take n) x = true) : Lib.hasPrefix l x = true := by
  unfold Lib.hasPrefix at h ⊢
  rw [List.isPrefixOf_iff_prefix] at h ⊢
  exact h.trans (List.take_prefix _ _)
/-- No comment on a line stands where a semicolon does. -/
theorem semi_note {s : ByteArray} {q : Nat} {m : Tk} (hs : SemA s q) (hm : NoteA s m) (hp : Lib.hasPrefix m.2.1.data.toList [47, 47] = true) : q ≠ m.2.2 := by
  rintro rfl
  obtain ⟨hlt, e, ht, hx⟩ := hm
  rw [hx, Lib.extract_data] at hp
  have hpre : pre s m.2.2 [47, 47] = true := pre_take hp
  have hc := thing_eq s m.2.2
  rw [ht] at hc
  have hlf : hasLF s m.2.2 e = false := by
    split at hc
    · cases hc
    split at hc
    · cases hc
    cases hl : lineR s m.2.2 with
    | inl f => rw [hl] at hc; cases hc
    | inr e2 =>
      rw [hl] at hc
      injection hc with hc
      subst hc
      exact line_no_lf (Nat.le_of_lt hlt) hl
  rcases hs with h | h | ⟨e2, h, h2⟩ | ⟨k, e2, h⟩
  · omega
  · rw [ht] at h; cases h
  · rw [ht] at h; injection h with h; subst h; rw [hlf] at h2; cases h2
  · rw [ht] at h; cases h
/-- The comments behind the clause. -/
def bk (s : ByteArray) (a b : Nat) (M : List Tk) : List Tk := (M.filter (aloneB s)).filter (inB (a : Int) (b : Int))
theorem bk_cons (s : ByteArray) (a b : Nat) (x : Tk) (M : List Tk) : bk s a b (x :: M) = if (a < x.2.2 ∧ x.2.2 < b) ∧ aloneB s x = true then x :: bk s a b M else bk s a b M := by
  have hin : inB (a : Int) (b : Int) x = decide (a < x.2.2 ∧ x.2.2 < b) := by
    unfold inB
    rw [← Bool.decide_and]
    apply decide_eq_decide.2
    constructor <;> (rintro ⟨h1, h2⟩; exact ⟨by omega, by omega⟩)
  unfold bk
  by_cases h : aloneB s x = true
  · rw [List.filter_cons_of_pos h]
    by_cases h1 : a < x.2.2 ∧ x.2.2 < b
    · rw [List.filter_cons_of_pos (by rw [hin]; exact decide_eq_true h1), if_pos ⟨h1, h⟩]
    · rw [List.filter_cons_of_neg (by rw [hin, decide_eq_false h1]; exact Bool.noConfusion), if_neg (fun k => h1 k.1)]
  · rw [List.filter_cons_of_neg h, if_neg (fun k => h k.2)]
theorem bk_no {s : ByteArray} {a b : Nat} {x : Tk} {M : List Tk} (h : ¬ ((a < x.2.2 ∧ x.2.2 < b) ∧ aloneB s x = true)) : bk s a b (x :: M) = bk s a b M := by rw [bk_cons, if_neg h]
theorem bk_yes {s : ByteArray} {a b : Nat} {x : Tk} {M : List Tk} (h1 : a < x.2.2) (h2 : x.2.2 < b) (h3 : aloneB s x = true) : bk s a b (x :: M) = x :: bk s a b M := by rw [bk_cons, if_pos ⟨⟨h1, h2⟩, h3⟩]
theorem back_bk (s : ByteArray) : backR s = bk s (tk (lexL s) 2).2.2 (tk (lexL s) (beginR (lexL s)).2.1).2.2 (lexM s) := rfl
theorem front_fl (s : ByteArray) : frontR s = fl s (tk (lexL s) 0).2.2 (lexM s) := rfl
end Go.Proofs.YtejogobhnbjpdaaGreatDoor
