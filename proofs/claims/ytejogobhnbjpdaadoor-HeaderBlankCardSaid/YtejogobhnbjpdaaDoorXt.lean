/- Walks: the statement HeaderBlank. -/
import Derived.Test.YtejogobhnbjpdaaDoorXs
namespace Go.Proofs.YtejogobhnbjpdaaDoor
set_option linter.unusedVariables false
set_option linter.unusedSimpArgs false
open Go.ChangeShapes Go.WideShapes Go.ChangeAt Go.RowKit

theorem textA_next {nm a : ByteArray} {ps : List ByteArray} {k : Nat} (hk : k < ps.length) (h : a.data.toList = textA nm (ps.take k)) :
    (((a ++ (⟨#[105, 109, 112, 111, 114, 116, 32, 34]⟩ : ByteArray)) ++ ps[k]) ++ (⟨#[34, 10]⟩ : ByteArray)).data.toList = textA nm (ps.take (k + 1)) := by
  simp only [ByteArray.data_append, Array.toList_append, h]
  have e : (ps.take (k + 1)).flatMap impA = (ps.take k).flatMap impA ++ impA ps[k] := by rw [List.take_succ_eq_append_getElem hk, List.flatMap_append, List.flatMap_singleton]
  unfold textA
  rw [e]
  simp [impA]
theorem textN_next {nm a nt : ByteArray} {ps : List ByteArray} {k : Nat} (hk : k < ps.length) (h : a.data.toList = textN nm nt.data.toList (ps.take k)) :
    ((((((((a ++ (⟨#[9, 47, 47, 32]⟩ : ByteArray)) ++ nt) ++ (⟨#[10, 105, 109, 112, 111, 114, 116, 32, 47, 42, 32]⟩ : ByteArray)) ++ nt) ++ (⟨#[32, 42, 47, 32, 34]⟩ : ByteArray)) ++ ps[k]) ++ (⟨#[34, 32, 47, 47, 32]⟩ : ByteArray)) ++ nt ++ (⟨#[10, 10]⟩ : ByteArray)).data.toList = textN nm nt.data.toList (ps.take (k + 1)) := by
  simp only [ByteArray.data_append, Array.toList_append, h]
  have e : (ps.take (k + 1)).flatMap (impN nt.data.toList) = (ps.take k).flatMap (impN nt.data.toList) ++ impN nt.data.toList ps[k] := by rw [List.take_succ_eq_append_getElem hk, List.flatMap_append, List.flatMap_singleton]
  unfold textN
  rw [e]
  simp [impN]
theorem textA_zero (nm : ByteArray) : (((⟨#[112, 97, 99, 107, 97, 103, 101, 32]⟩ : ByteArray) ++ nm) ++ (⟨#[10]⟩ : ByteArray)).data.toList = textA nm [] := by
  simp [textA]
theorem textN_zero (nm nt : ByteArray) : ((((((((((⟨#[47, 47, 32]⟩ : ByteArray) ++ nt) ++ (⟨#[10, 10, 47, 42, 32]⟩ : ByteArray)) ++ nt) ++ (⟨#[32, 42, 47, 32, 112, 97, 99, 107, 97, 103, 101, 32, 47, 42, 32]⟩ : ByteArray)) ++ nt) ++ (⟨#[32, 42, 47, 32]⟩ : ByteArray)) ++ nm) ++ (⟨#[32, 47, 47, 32]⟩ : ByteArray)) ++ nt ++ (⟨#[10, 10]⟩ : ByteArray)).data.toList = textN nm nt.data.toList [] := by
  simp [textN, headN]
/-- What the loop over the paths holds. -/
structure BkT (nm nt : ByteArray) (ps : List ByteArray) (k : Nat) (a b : ByteArray) : Prop where
  ha : a.data.toList = textA nm (ps.take k)
  hb : b.data.toList = textN nm nt.data.toList (ps.take k)
  p : ∀ i (h : i < ps.length), i < k → plainP ps[i]
  s : a.size ≤ 1000 + 1000 * k ∧ b.size ≤ 1000 + 1000 * k
theorem BkT.next {nm nt a b : ByteArray} {ps : List ByteArray} {k : Nat} (h : BkT nm nt ps k a b) (hk : k < ps.length) (hx : plainP ps[k]) (hnt : nt.size ≤ 99) :
    BkT nm nt ps (k + 1) (((a ++ (⟨#[105, 109, 112, 111, 114, 116, 32, 34]⟩ : ByteArray)) ++ ps[k]) ++ (⟨#[34, 10]⟩ : ByteArray))
      ((((((((b ++ (⟨#[9, 47, 47, 32]⟩ : ByteArray)) ++ nt) ++ (⟨#[10, 105, 109, 112, 111, 114, 116, 32, 47, 42, 32]⟩ : ByteArray)) ++ nt) ++ (⟨#[32, 42, 47, 32, 34]⟩ : ByteArray)) ++ ps[k]) ++ (⟨#[34, 32, 47, 47, 32]⟩ : ByteArray)) ++ nt ++ (⟨#[10, 10]⟩ : ByteArray)) := by
  have hs := h.s
  have hz := hx.2.2
  refine ⟨textA_next hk h.ha, textN_next hk h.hb, fun i hi hik => ?_, ?_, ?_⟩
  · rcases Nat.lt_or_ge i k with h1 | h1
    · exact h.p i hi h1
    · obtain rfl : i = k := by omega
      exact hx
  · simp only [ByteArray.size_append]
    have e1 : (⟨#[105, 109, 112, 111, 114, 116, 32, 34]⟩ : ByteArray).size = 8 := rfl
    have e2 : (⟨#[34, 10]⟩ : ByteArray).size = 2 := rfl
    omega
  · simp only [ByteArray.size_append]
    have e1 : (⟨#[9, 47, 47, 32]⟩ : ByteArray).size = 4 := rfl
    have e2 : (⟨#[10, 105, 109, 112, 111, 114, 116, 32, 47, 42, 32]⟩ : ByteArray).size = 11 := rfl
    have e3 : (⟨#[32, 42, 47, 32, 34]⟩ : ByteArray).size = 5 := rfl
    have e4 : (⟨#[34, 32, 47, 47, 32]⟩ : ByteArray).size = 5 := rfl
    have e5 : (⟨#[10, 10]⟩ : ByteArray).size = 2 := rfl
    omega
theorem BkT.zero {nm nt : ByteArray} {ps : List ByteArray} (hn : nm.size ≤ 100) (hnt : nt.size ≤ 99) : BkT nm nt ps 0 (((⟨#[112, 97, 99, 107, 97, 103, 101, 32]⟩ : ByteArray) ++ nm) ++ (⟨#[10]⟩ : ByteArray))
    ((((((((((⟨#[47, 47, 32]⟩ : ByteArray) ++ nt) ++ (⟨#[10, 10, 47, 42, 32]⟩ : ByteArray)) ++ nt) ++ (⟨#[32, 42, 47, 32, 112, 97, 99, 107, 97, 103, 101, 32, 47, 42, 32]⟩ : ByteArray)) ++ nt) ++ (⟨#[32, 42, 47, 32]⟩ : ByteArray)) ++ nm) ++ (⟨#[32, 47, 47, 32]⟩ : ByteArray)) ++ nt ++ (⟨#[10, 10]⟩ : ByteArray)) := by
  refine ⟨textA_zero nm, textN_zero nm nt, fun i _ h => absurd h (Nat.not_lt_zero _), ?_, ?_⟩
  · simp only [ByteArray.size_append]
    have z1 : (⟨#[112, 97, 99, 107, 97, 103, 101, 32]⟩ : ByteArray).size = 8 := rfl
    have z2 : (⟨#[10]⟩ : ByteArray).size = 1 := rfl
    omega
  · simp only [ByteArray.size_append]
    have z3 : (⟨#[47, 47, 32]⟩ : ByteArray).size = 3 := rfl
    have z4 : (⟨#[10, 10, 47, 42, 32]⟩ : ByteArray).size = 5 := rfl
    have z5 : (⟨#[32, 42, 47, 32, 112, 97, 99, 107, 97, 103, 101, 32, 47, 42, 32]⟩ : ByteArray).size = 15 := rfl
    have z6 : (⟨#[32, 42, 47, 32]⟩ : ByteArray).size = 4 := rfl
    have z7 : (⟨#[32, 47, 47, 32]⟩ : ByteArray).size = 4 := rfl
    have z8 : (⟨#[10, 10]⟩ : ByteArray).size = 2 := rfl
    omega
theorem blank_parse {nm nt a b : ByteArray} {ps : List ByteArray} {k : Nat} (h : BkT nm nt ps k a b) (hk : k = ps.length) (hn : plainP nm) (hnt : ∀ c ∈ nt.data.toList, alnC c = true) (hd : ¬ (48 ≤ byt nm 0 ∧ byt nm 0 ≤ 57)) (hj : joinsB nm = false) (hkey : keyB nm = false) :
    ∃ J1 J2, parseR a = ⟨nm, J1, ⟨#[]⟩, [], 0, 0⟩ ∧ parseR b = ⟨nm, J2, ⟨#[]⟩, [], 0, 0⟩ ∧ J1.map nmOf = J2.map nmOf := by
  have hp : ∀ p ∈ ps, Aln p ∧ p ≠ ⟨#[]⟩ := fun p hp => by
    obtain ⟨i, hi, rfl⟩ := List.mem_iff_getElem.1 hp
    exact plain_aln (h.p i hi (by omega))
  obtain ⟨ha, h0⟩ := plain_aln hn
  have h95 : nm ≠ ⟨#[95]⟩ := fun e => by
    have := ha 95 (by rw [e]; exact List.mem_singleton.2 rfl)
    exact absurd this (by decide)
  have e1 := h.ha
  have e2 := h.hb
  rw [hk, List.take_length] at e1 e2
  obtain ⟨t1, t2⟩ := lex_A e1 ha h0 hd hj hkey hp
  obtain ⟨u1, u2⟩ := lex_N e2 hnt ha h0 hd hj hp
  obtain ⟨J1, p1, p2⟩ := parse_dull t1 h95 hkey (il_good hp) (fun t ht => by rw [t2] at ht; cases ht)
  obtain ⟨J2, q1, q2⟩ := parse_dull u1 h95 hkey (il_good hp) u2
  exact ⟨J1, J2, p1, q1, p2.trans q2.symm⟩
set_option maxRecDepth 100000 in
set_option maxHeartbeats 8000000 in
theorem blank_walk (nm nt : ByteArray) (pv : Value) (ps : List ByteArray) (w : World) (hn0 : nm.size ≤ 140737488351232) (ht0 : nt.size ≤ 140737488351232) (hP : Strs w pv ps) (hpz : ∀ s ∈ ps, s.size ≤ 140737488351232) (hpl : ps.length ≤ 9223372036854775807) (hTab : Tabs w) :
    Calls Tryd.prog 11 #[.string nm, pv, .string nt] w (LawEnd w) := by
  obtain ⟨pp, pc, rfl, hpp⟩ := strs_shape hP
  have HPZ := Lib.hid (fun i (h : i < ps.length) => hpz _ (List.getElem_mem h))
  have HA := Lib.hid (alive12_any w hTab)
  have HT := Lib.hid hTab
  have HPL := Lib.hid (fun (x : ByteArray) w1 (h : x.size ≤ 1000000000000000) => plainW_any x w1 h)
  have HO := Lib.hid (fun (x : ByteArray) w1 => open_any x w1)
  have HX := Lib.hid (fun (x : ByteArray) w1 (hx : x.size ≤ 1048576) (h : Below w.heap.size w w1) => parse_ent x w1 hx (tabs_below HT.out h))
  have h1s : (⟨#[120]⟩ : ByteArray).size = 1 := rfl
  have hxs : ((⟨#[120]⟩ : ByteArray) ++ nt).size = nt.size + 1 := by rw [ByteArray.size_append, h1s]; omega
  obtain ⟨len, hlen⟩ : ∃ len, len = ps.length := ⟨_, rfl⟩
  have HPP := Lib.hid (fun h : 0 < len => hpp (by omega))
  rw [← hlen] at hpl ⊢
  have HLN := Lib.hid hlen
  clear hTab hP hpz hpp hlen
  go_enter Tryd.func11, Tryd.ntmps11
  go_wp2_with fail
  refine HA.out.mono ?_
  rintro r w1 ⟨rfl, hB⟩
  have HB := Lib.hid hB
  clear hB
  go_wp2_with fail
  refine (HPL.out nm _ (by omega)).mono ?_
  rintro r w2 ⟨⟨b, rfl, hb⟩, rfl⟩
  have Hb := Lib.hid hb
  clear hb
  cases b with
  | false =>
    go_wp2_with fail
    go_ret
    exact ⟨rfl, HB.out⟩
  | true =>
  have HPn := Lib.hid (Hb.out.1 rfl)
  clear Hb
  go_wp2_with fail
  refine (HPL.out _ _ (by rw [hxs]; omega)).mono ?_
  rintro r w2 ⟨⟨b, rfl, hb⟩, rfl⟩
  have Hb := Lib.hid hb
  clear hb
  cases b with
  | false =>
    go_wp2_with fail
    go_ret
    exact ⟨rfl, HB.out⟩
  | true =>
  have HPt := Lib.hid (plain_x (Hb.out.1 rfl))
  clear Hb h1s hxs
  by_cases h20 : 20 < len
  · have h20I : (20 : Int) < (len : Int) := by omega
    have h20d : decide (20 < len) = true := decide_eq_true h20
    go_wp2_with fail
    go_ret
    exact ⟨rfl, HB.out⟩
  have h20I : ¬ (20 : Int) < (len : Int) := by omega
  have h20d : decide (20 < len) = false := decide_eq_false h20
  have hbb : ∃ jb, jb = joinsB nm := ⟨_, rfl⟩
  obtain ⟨jb, hjb⟩ := hbb
  have HJ := Lib.hid hjb
  have HO2 := Lib.hid (fun w1 => HO.out nm w1)
  rw [← hjb] at HO2
  clear hjb
  go_wp2_with fail
  refine (HO2.out _).mono ?_
  rintro r w2 ⟨rfl, hB⟩
  have HB := Lib.hid (HB.out.trans (hB.mono HB.out.size))
  clear hB
  cases jb with
  | true =>
    go_wp2_with fail
    go_ret
    exact ⟨rfl, HB.out⟩
  | false =>
  have kb1 := str_lit nm #[98, 114, 101, 97, 107]
  by_cases eb1 : nm = ⟨#[98, 114, 101, 97, 107]⟩
  · rw [decide_eq_true eb1] at kb1
    clear eb1
    go_wp2_with fail
    go_ret
    exact ⟨rfl, HB.out⟩
  rw [decide_eq_false eb1] at kb1
  have Eb1 := Lib.hid eb1
  clear eb1
  have kb2 := str_lit nm #[99, 111, 110, 116, 105, 110, 117, 101]
  by_cases eb2 : nm = ⟨#[99, 111, 110, 116, 105, 110, 117, 101]⟩
  · rw [decide_eq_true eb2] at kb2
    clear eb2
    go_wp2_with fail
    go_ret
    exact ⟨rfl, HB.out⟩
  rw [decide_eq_false eb2] at kb2
  have Eb2 := Lib.hid eb2
  clear eb2
  have kb3 := str_lit nm #[102, 97, 108, 108, 116, 104, 114, 111, 117, 103, 104]
  by_cases eb3 : nm = ⟨#[102, 97, 108, 108, 116, 104, 114, 111, 117, 103, 104]⟩
  · rw [decide_eq_true eb3] at kb3
    clear eb3
    go_wp2_with fail
    go_ret
    exact ⟨rfl, HB.out⟩
  rw [decide_eq_false eb3] at kb3
  have Eb3 := Lib.hid eb3
  clear eb3
  have kb4 := str_lit nm #[114, 101, 116, 117, 114, 110]
  by_cases eb4 : nm = ⟨#[114, 101, 116, 117, 114, 110]⟩
  · rw [decide_eq_true eb4] at kb4
    clear eb4
    go_wp2_with fail
    go_ret
    exact ⟨rfl, HB.out⟩
  rw [decide_eq_false eb4] at kb4
  have Eb4 := Lib.hid eb4
  clear eb4
  have hsz : 0 < nm.size := by
    rcases Nat.eq_zero_or_pos nm.size with h | h
    · exact absurd (ba_ext (List.eq_nil_of_length_eq_zero (by rw [← Lib.size_eq]; exact h))) HPn.out.2.1
    · exact h
  have hc : byt nm 0 = nm[0].toNat := by unfold byt; rw [get_is nm 0 hsz]
  have hal := HPn.out.1 0 hsz
  rw [hc] at hal
  have hszI : (0 : Int) < (nm.size : Int) := by omega
  by_cases h48 : 48 ≤ nm[0].toNat
  case neg =>
    exfalso
    unfold alnum at hal
    simp at hal
    omega
  by_cases h57 : nm[0].toNat ≤ 57
  · have h48I : (48 : Int) ≤ (nm[0].toNat : Int) := by omega
    have h57I : (nm[0].toNat : Int) ≤ (57 : Int) := by omega
    have h48d : decide (48 ≤ nm[0].toNat) = true := decide_eq_true h48
    have h57d : decide (nm[0].toNat ≤ 57) = true := decide_eq_true h57
    clear hc hal
    go_wp2_with fail
    go_ret
    exact ⟨rfl, HB.out⟩
  have h48I : (48 : Int) ≤ (nm[0].toNat : Int) := by omega
  have h57I : ¬ (nm[0].toNat : Int) ≤ (57 : Int) := by omega
  have h48d : decide (48 ≤ nm[0].toNat) = true := decide_eq_true h48
  have h57d : decide (nm[0].toNat ≤ 57) = false := decide_eq_false h57
  have HD := Lib.hid (show ¬ (48 ≤ byt nm 0 ∧ byt nm 0 ≤ 57) by rw [hc]; omega)
  clear hc hal
  have hns := HPn.out.2.2
  have hts := HPt.out.2
  go_upto_region 5 with fail
  clear h48I h57I h48d h57d h48 h57 hszI
  go_upto_region 6 with fail
  have HT0 := Lib.hid (BkT.zero (nm := nm) (nt := nt) (ps := ps) hns hts)
  generalize ({ data := #[112, 97, 99, 107, 97, 103, 101, 32] } ++ nm ++ { data := #[10] } : ByteArray) = a0 at *
  generalize ({ data := #[47, 47, 32] } ++ nt ++ { data := #[10, 10, 47, 42, 32] } ++ nt ++ { data := #[32, 42, 47, 32, 112, 97, 99, 107, 97, 103, 101, 32, 47, 42, 32] } ++ nt ++ { data := #[32, 42, 47, 32] } ++ nm ++ { data := #[32, 47, 47, 32] } ++ nt ++ { data := #[10, 10] } : ByteArray) = b0 at *
  have hlen2 : len ≤ 20 := by omega
  clear h20I h20d h20 hn0 ht0
  go_wp2_with fail
  go_loopg [7, 8, 10, 80] len (fun g va vb _ iv wr => ∃ (k : Nat) (a b : ByteArray), k + g = len ∧ va = .string a ∧ vb = .string b ∧ iv = .int .i64 k ∧ Hid (BkT nm nt ps k a b) ∧ wr = w2)
  case atStart => exact ⟨0, _, _, by omega, rfl, rfl, rfl, HT0, rfl⟩
  case round =>
    obtain ⟨k, a, b, hkg, rfl, rfl, rfl, HR, rfl⟩ := hrel
    have hs := HR.out.s
    by_cases hlt : k < len
    · have hltI : (k : Int) < (len : Int) := by omega
      obtain ⟨bb, off, rfl, hbl, hc⟩ := HPP.out (by omega)
      have hk : k < ps.length := by have := HLN.out; omega
      have ck := (HB.out.cell (p := ⟨bb, off + k, none⟩) hbl).trans (hc k hk)
      have hz := HPZ.out k hk
      have HNX := Lib.hid (fun (hx : plainP ps[k]) => HR.out.next hk hx hts)
      have HPX := Lib.hid (fun (hx : plainP ps[k]) => hx.2.2)
      clear hc
      generalize ps[k] = x at *
      go_wp2_with fail
      refine (HPL.out _ _ (by omega)).mono ?_
      rintro r w3 ⟨⟨bl, rfl, hb⟩, rfl⟩
      have Hb := Lib.hid hb
      clear hb
      cases bl with
      | false =>
        go_wp2_with fail
        go_ret
        exact ⟨rfl, HB.out⟩
      | true =>
        have HN := Lib.hid (HNX.out (Hb.out.1 rfl))
        have hxs := HPX.out (Hb.out.1 rfl)
        clear Hb ck
        go_wp2_with fail
        go_roundg (gk - 1)
        case measure => omega
        case rel => exact ⟨k + 1, _, _, by omega, rfl, rfl, by go_num, HN, rfl⟩
    have hnI : ¬ (k : Int) < (len : Int) := by omega
    obtain ⟨J1, J2, p1, p2, hJ⟩ := blank_parse HR.out (by have := HLN.out; omega) HPn.out HPt.out.1 HD.out HJ.out.symm (key_of Eb1.out Eb2.out Eb3.out Eb4.out HJ.out.symm)
    have hB1 := parse_b a (by omega)
    rw [p1] at hB1
    have hl1 : J1.length ≤ 4194304 := hB1.il
    have hIm : ∀ t ∈ J1, ImB t := fun t ht => (hB1.im t ht).b
    have hl2 : J2.length = J1.length := by have := congrArg List.length hJ; simpa using this.symm
    have HXA := Lib.hid (fun w1 (h : Below w.heap.size w w1) => HX.out a w1 (by omega) h)
    have HXB := Lib.hid (fun w1 (h : Below w.heap.size w w1) => HX.out b w1 (by omega) h)
    rw [p1] at HXA
    rw [p2] at HXB
    have Q1 := Lib.hid hJ
    have Q2 := Lib.hid hl2
    have Q3 := Lib.hid hIm
    have Q4 := Lib.hid (show ∀ i (h : i < J1.length), J1[i].2.2 ≤ 4194304 from fun i h => (hB1.im _ (List.getElem_mem h)).2.2)
    have hB2 := parse_b b (by omega)
    rw [p2] at hB2
    have Q5 := Lib.hid (show ∀ i (h : i < J2.length), J2[i].2.2 ≤ 4194304 from fun i h => (hB2.im _ (List.getElem_mem h)).2.2)
    clear p1 p2 hJ hB1 hB2 hl2 hIm HX HR HPL HO HO2 HPP HPZ hs
    go_wp2_with fail
    refine (HXA.out _ HB.out).mono ?_
    rintro r w3 ⟨v3, rfl, ⟨iv1, ev1, rfl, hi1, he1, _, _⟩, hB⟩
    have HB3 := Lib.hid (HB.out.trans (hB.mono HB.out.size))
    have hs1 := HB.out.size
    clear hB
    go_wp2_with fail
    refine (HXB.out _ HB3.out).mono ?_
    rintro r w4 ⟨v4, rfl, ⟨iv2, ev2, rfl, hi2, he2, _, _⟩, hB⟩
    dsimp only at hi1 he1 hi2 he2
    obtain ⟨pe1, ce1, rfl, _⟩ := lat_shape he1
    obtain ⟨pe2, ce2, rfl, _⟩ := lat_shape he2
    obtain ⟨pi1, ci1, rfl⟩ := own_slice' hi1
    obtain ⟨pi2, ci2, rfl⟩ := own_slice' hi2
    obtain ⟨lj, hlj⟩ : ∃ lj, lj = J1.length := ⟨_, rfl⟩
    rw [Q2.out, ← hlj] at hi2
    rw [← hlj] at hi1
    rw [← hlj] at hl1
    have hst := BkSt.start (w0 := w) hi1 hi2 HB3.out hB hs1 pe1 pe2 ce1 ce2 nm
    have HST := Lib.hid hst
    have HLJ := Lib.hid hlj
    clear hi1 he1 hi2 he2 hst hB hs1 HB HB3
    dsimp only [List.length_nil]
    rw [Q2.out, ← hlj]
    clear hlj
    go_upto_region 15 with fail
    generalize (w4.alloc (.cells #[.string nm, .slice pi1 lj ci1, .string ⟨#[]⟩, .slice pe1 0 ce1, .int .i64 0, .int .i64 0] 41)).alloc (.cells #[.string nm, .slice pi2 lj ci2, .string ⟨#[]⟩, .slice pe2 0 ce2, .int .i64 0, .int .i64 0] 41) = w5 at *
    generalize w4.heap.size = n1 at *
    have c1 := block_cell HST.out.x1 1
    have f1 := block_cell HST.out.x2 1
    go_wp2_with fail
    go_loopg [13, 121] lj (fun g _ iv wr => ∃ k : Nat, k + g = lj ∧ iv = .int .i64 k ∧ Hid (BkSt w n1 (n1 + 1) nm pi1 pe1 pi2 pe2 ci1 ce1 ci2 ce2 lj J1 J2 k k wr))
    case atStart => exact ⟨0, by omega, rfl, HST⟩
    case round =>
      clear c1 f1
      obtain ⟨k, hkg, rfl, HR⟩ := hrel
      by_cases hlt : k < lj
      · have hltI : (k : Int) < (lj : Int) := by omega
        have cb1 := block_cell HR.out.x1 1
        have hk1 : k < J1.length := by have := HLJ.out; omega
        have hk2 : k < J2.length := by have := HLJ.out; have := Q2.out; omega
        obtain ⟨g, rfl, cc, cz, hn⟩ := HR.out.step1 HLJ.out hk1
        obtain ⟨g', rfl, cc', cz', hn'⟩ := hn.step2 (HLJ.out.trans Q2.out.symm) hk2
        have cb2 := block_cell hn.x2 1
        have HN := Lib.hid hn'
        clear hn hn'
        generalize J1[k].2.2 = pl at *
        generalize J2[k].2.2 = pl' at *
        go_wp2_with fail
        go_roundg (gk - 1)
        case measure => omega
        case rel => exact ⟨k + 1, by omega, by go_num, HN⟩
      have hnI : ¬ (k : Int) < (lj : Int) := by omega
      obtain rfl : k = lj := by omega
      have hy1 := HR.out.x1
      have hy2 := HR.out.x2
      have d0 := block_cell hy1 0
      have d1 := block_cell hy1 1
      have d2 := block_cell hy1 2
      have d3 := block_cell hy1 3
      have d4 := block_cell hy1 4
      have d5 := block_cell hy1 5
      have e0 := block_cell hy2 0
      have e1 := block_cell hy2 1
      have e2 := block_cell hy2 2
      have e3 := block_cell hy2 3
      have e4 := block_cell hy2 4
      have e5 := block_cell hy2 5
      have HE := Lib.hid (bk_same HR.out HLJ.out (HLJ.out.trans Q2.out.symm) Q1.out Q3.out hl1)
      have HBR := Lib.hid HR.out.b
      clear hy1 hy2
      go_wp2_with fail
      refine HE.out.mono ?_
      rintro r w6 ⟨rfl, hB6⟩
      have HB6 := Lib.hid (HBR.out.trans (hB6.mono HBR.out.size))
      clear hB6
      go_wp2_with fail
      go_ret
      exact ⟨rfl, HB6.out⟩
end Go.Proofs.YtejogobhnbjpdaaDoor
