/- Walks: the statement GolexParts. -/
import Derived.Test.YtejogobhnbjpdaaDoorLa
namespace Go.Proofs.YtejogobhnbjpdaaDoor
set_option linter.unusedVariables false
set_option linter.unusedSimpArgs false
open Go.ChangeShapes Go.WideShapes Go.ChangeAt Go.RowKit

theorem lexL_end (s : ByteArray) : ∃ T t, lexL s = T ++ [t] ∧ (t.1 = 7 ∨ t.1 = 0) := by
  obtain ⟨x, y, t, F, h1, _, _, _, _, h2⟩ := (covers_ok s (skN s) [] [] (skN_le s) (skN s) (Nat.le_refl _) .nil).f
  refine ⟨x, t, by unfold lexL; rw [h1]; rfl, ?_⟩
  rcases h2 with h | h
  · exact .inl h.1
  · exact .inr h.1
theorem skip_sk (b : ByteArray) : skipV b = (skN b : Nat) := by unfold skipV skN; split <;> rfl
set_option maxRecDepth 100000 in
set_option maxHeartbeats 2000000 in
theorem parts_walk (a b : ByteArray) (w : World) (ha0 : a.size ≤ 140737488351232) (hb0 : b.size ≤ 140737488351232) (hTab : Tabs w) : Calls Tryd.prog 5 #[.string a, .string b] w (LawEnd w) := by
  have HA := Lib.hid (alive_any w hTab)
  have HT := Lib.hid hTab
  clear hTab
  by_cases hbig : 1024 < a.size
  · have hbI : (1024 : Int) < (a.size : Int) := by omega
    go_enter Tryd.func5, Tryd.ntmps5
    go_wp2_with fail
    refine HA.out.mono ?_
    rintro r w1 ⟨rfl, hB⟩
    have HB1 := Lib.hid hB
    clear hB
    go_wp2_with fail
    go_ret
    exact ⟨rfl, HB1.out⟩
  have hbI : ¬ (1024 : Int) < (a.size : Int) := by omega
  by_cases hbig2 : 1024 < b.size
  · have hbI2 : (1024 : Int) < (b.size : Int) := by omega
    go_enter Tryd.func5, Tryd.ntmps5
    go_wp2_with fail
    refine HA.out.mono ?_
    rintro r w1 ⟨rfl, hB⟩
    have HB1 := Lib.hid hB
    clear hB
    go_wp2_with fail
    go_ret
    exact ⟨rfl, HB1.out⟩
  have hbI2 : ¬ (1024 : Int) < (b.size : Int) := by omega
  have HSK := Lib.hid (fun w1 => refSkip_any b w1 (by omega))
  have hsks := skip_sk b
  rcases sk_01 b with hsk | hsk
  case inr =>
    rw [hsks, hsk] at HSK
    go_enter Tryd.func5, Tryd.ntmps5
    go_wp2_with fail
    refine HA.out.mono ?_
    rintro r w1 ⟨rfl, hB⟩
    have HB1 := Lib.hid hB
    clear hB
    go_wp2_with fail
    refine (HSK.out _).mono ?_
    rintro r w2 ⟨rfl, rfl⟩
    go_wp2_with fail
    go_ret
    exact ⟨rfl, HB1.out⟩
  rw [hsks, hsk] at HSK
  clear hsks
  have h1s : (⟨#[10]⟩ : ByteArray).size = 1 := rfl
  obtain ⟨A, hA⟩ : ∃ A, A = a ++ (⟨#[10]⟩ : ByteArray) := ⟨_, rfl⟩
  have hAz : A.size = a.size + 1 := by rw [hA, ByteArray.size_append, h1s]
  have hlf : byt A (A.size - 1) = 10 := by
    rw [hAz, hA, Nat.add_sub_cancel]
    have := get_app_r a ⟨#[10]⟩ 0
    rw [Nat.add_zero] at this
    unfold byt; rw [this]; rfl
  have HLAW := Lib.hid (fun hk => parts_law (A := A) (b := b) (by omega) hlf hsk hk)
  have HL1 := Lib.hid (fun w1 (h1 : Below w.heap.size w w1) => lex_any A w1 (by omega) (tabs_below HT.out h1))
  have HL2 := Lib.hid (fun w1 (h1 : Below w.heap.size w w1) => lex_any b w1 (by omega) (tabs_below HT.out h1))
  have hABz : (A ++ b).size = A.size + b.size := ByteArray.size_append
  have HL3 := Lib.hid (fun w1 (h1 : Below w.heap.size w w1) => lex_any (A ++ b) w1 (by omega) (tabs_below HT.out h1))
  have HT1 := Lib.hid (lexL_tkb (s := A) (by omega))
  have HT2 := Lib.hid (lexL_tkb (s := b) (by omega))
  have HT3 := Lib.hid (lexL_tkb (s := A ++ b) (by omega))
  have hl1 := (lexL_len A).1
  have hl2 := (lexL_len b).1
  have hl3 := (lexL_len (A ++ b)).1
  rw [hABz] at hl3
  obtain ⟨T, t, hLT, _⟩ := lexL_end A
  generalize lexL A = L at *
  generalize lexL (A ++ b) = N at *
  have hn : L.length = T.length + 1 := by rw [hLT]; simp
  obtain ⟨n, hnn⟩ : ∃ n, n = T.length := ⟨_, rfl⟩
  rw [← hnn] at hn
  have Hn := Lib.hid hn
  have hx : L[n]? = some t := by rw [hLT, hnn, List.getElem?_append_right (Nat.le_refl _), Nat.sub_self]; rfl
  have Hx := Lib.hid hx
  have HLT := Lib.hid hLT
  have hnb : n ≤ 1030 := by omega
  have hn1 : (n : Int) + 1 - 1 = n := by omega
  have hwn : wrap64 (n : Int) = (n : Int) := by unfold wrap64; omega
  have hq1 : a.size + (⟨#[10]⟩ : ByteArray).size ≤ 1048576 := by omega
  have hq2 : A.size + b.size ≤ 1048576 := by omega
  have HAe := Lib.hid hA
  have Hnn := Lib.hid hnn
  have HAz := Lib.hid hAz
  clear hx hLT hn hnn hsk hlf hA hABz
  obtain ⟨kt, xt, pt⟩ := t
  obtain ⟨_, _, hMe, _⟩ := lexL_end b
  generalize lexL b = M at *
  obtain ⟨nm, hnm⟩ : ∃ nm, nm = M.length := ⟨_, rfl⟩
  have Hnm := Lib.hid hnm
  have hnmb : nm ≤ 1030 := by omega
  have hnm1 : 1 ≤ nm := by rw [hnm, hMe]; simp
  clear hnm hl1 hl2 hMe
  have PRE : True := trivial
  by_cases hk0 : kt = 0
  case neg =>
    have hkI : ((kt : Int) == 0) = false := beq_eq_false_iff_ne.2 (by omega)
    have hkN : ((kt : Int) != 0) = true := by rw [bne, hkI]; rfl
    have hn0 : ((n : Int) + 1 == 0) = false := beq_eq_false_iff_ne.2 (by omega)
    clear hk0
    go_enter Tryd.func5, Tryd.ntmps5
    go_wp2_with fail
    refine HA.out.mono ?_
    rintro r w1 ⟨rfl, hB⟩
    have HB1 := Lib.hid hB
    clear hB
    go_wp2_with fail
    refine (HSK.out _).mono ?_
    rintro r w2 ⟨rfl, rfl⟩
    go_wp2_with fail
    try rw [← HAe.out]
    refine (HL1.out _ HB1.out).mono ?_
    rintro r w2 ⟨v, rfl, hv, hB2⟩
    obtain ⟨pp, cap, rfl, hp⟩ := hv.shape
    obtain ⟨bb, off, rfl⟩ := hp (by rw [Hn.out]; omega)
    have HB2 := Lib.hid (HB1.out.trans (hB2.mono HB1.out.size))
    have HV := Lib.hid hv
    clear hv hB2 hp
    rw [Hn.out] at HV ⊢
    go_wp2_with fail
    refine (HL2.out _ HB2.out).mono ?_
    rintro r w3 ⟨v2, rfl, hv2, hB3⟩
    obtain ⟨p2, cap2, rfl, hp2⟩ := hv2.shape
    have HVr := Lib.hid (HV.out.below hB3)
    have e01 := (HVr.out.cells Hx.out).2.1
    have HB := Lib.hid (HB2.out.trans (hB3.mono HB2.out.size))
    have HV2 := Lib.hid hv2
    have Hp2 := Lib.hid hp2
    clear hv2 hB3 hp2
    rw [← Hnm.out] at HV2 Hp2 ⊢
    go_wp2_with fail
    go_ret
    exact ⟨rfl, HB.out⟩
  have hlaw := HLAW.out (fun u hu => by
    rw [HLT.out, List.getLast?_concat] at hu
    injection hu with hu
    rw [← hu]; exact hk0)
  obtain ⟨T', e1, e2⟩ := hlaw
  have hTT : T' = T := by
    have := e1.symm.trans HLT.out
    exact (List.append_inj' this rfl).1
  subst hTT
  subst hk0
  have HE2 := Lib.hid e2
  clear e1 e2
  go_enter Tryd.func5, Tryd.ntmps5
  go_wp2_with fail
  refine HA.out.mono ?_
  rintro r w1 ⟨rfl, hB⟩
  have HB1 := Lib.hid hB
  clear hB
  go_wp2_with fail
  refine (HSK.out _).mono ?_
  rintro r w2 ⟨rfl, rfl⟩
  go_wp2_with fail
  try rw [← HAe.out]
  refine (HL1.out _ HB1.out).mono ?_
  rintro r w2 ⟨v, rfl, hv, hB2⟩
  obtain ⟨pp, cap, rfl, hp⟩ := hv.shape
  obtain ⟨bb, off, rfl⟩ := hp (by rw [Hn.out]; omega)
  have HB2 := Lib.hid (HB1.out.trans (hB2.mono HB1.out.size))
  have HV := Lib.hid hv
  clear hv hB2 hp
  rw [Hn.out] at HV ⊢
  go_wp2_with fail
  refine (HL2.out _ HB2.out).mono ?_
  rintro r w3 ⟨v2, rfl, hv2, hB3⟩
  obtain ⟨p2, cap2, rfl, hp2⟩ := hv2.shape
  have HVr := Lib.hid (HV.out.below hB3)
  have e01 := (HVr.out.cells Hx.out).2.1
  have HB := Lib.hid (HB2.out.trans (hB3.mono HB2.out.size))
  have HV2 := Lib.hid hv2
  have Hp2 := Lib.hid hp2
  clear hv2 hB3 hp2
  rw [← Hnm.out] at HV2 Hp2 ⊢
  go_wp2_with fail
  try rw [← HAe.out]
  refine (HL3.out _ HB.out).mono ?_
  rintro r w4 ⟨v3, rfl, hv3, hB4⟩
  obtain ⟨p3, cap3, rfl, hp3⟩ := hv3.shape
  obtain ⟨n3, hn3⟩ : ∃ n3, n3 = N.length := ⟨_, rfl⟩
  rw [← hn3] at hv3 hp3 hl3 ⊢
  have hn3e : n3 = n + nm := by rw [hn3, HE2.out, List.length_append, List.length_map, ← Hnn.out, ← Hnm.out]
  obtain ⟨b3, off3, rfl⟩ := hp3 (by omega)
  have HV3 := Lib.hid hv3
  have HVL := Lib.hid (HVr.out.below hB4)
  have HVM := Lib.hid (HV2.out.below hB4)
  have HB4 := Lib.hid (HB.out.trans (hB4.mono HB.out.size))
  have hc3 : n ≤ cap3 := by
    rcases hv3.2 with ⟨_, _, _, h⟩ | ⟨_, _, _, hv, _, hc, _⟩
    · rw [h] at hn3; simp at hn3; omega
    · injection hv with _ h2 h3; omega
  have hc1 : n ≤ cap := by
    rcases HVL.out.2 with ⟨_, _, _, h⟩ | ⟨_, _, _, hv, _, hc, _⟩
    · have := Hn.out; rw [h] at this; simp at this
    · injection hv with _ h2 h3; have := Hn.out; omega
  have hNT : N.take n = L.take n := by
    rw [HE2.out, HLT.out, Hnn.out, List.take_left, List.take_left]
  have HS : Hid (∀ w1, Below w4.heap.size w4 w1 → Calls Tryd.prog 16 #[.slice (some ⟨b3, off3, none⟩) n cap3, .slice (some ⟨bb, off, none⟩) n cap] w1 fun e w' => e = .returned (.bool true) ∧ Below w4.heap.size w4 w') :=
    Lib.hid (fun w1 h1 => by
      have h := same_any _ _ (N.take n) (L.take n) w1 ((HV3.out.take (by omega)).below h1) ((HVL.out.take (by rw [Hn.out]; omega)).below h1) (fun t ht => HT3.out t (List.mem_of_mem_take ht)) (fun t ht => HT1.out t (List.mem_of_mem_take ht)) (by rw [List.length_take]; omega) (by rw [List.length_take]; omega)
      rw [hNT, decide_eq_true rfl] at h
      exact h.mono (fun e w5 hh => ⟨hh.1, h1.trans (hh.2.mono h1.size)⟩))
  have hneq : ((n3 : Int) == (n : Int) + (nm : Int)) = true := beq_iff_eq.2 (by omega)
  have hnnq : ((n3 : Int) != (n : Int) + (nm : Int)) = false := by rw [bne, hneq]; rfl
  have hcI3 : (n : Int) ≤ (cap3 : Int) := by omega
  have hcI1 : (n : Int) ≤ (cap : Int) := by omega
  have Hn3e := Lib.hid hn3e
  have Hn3 := Lib.hid hn3
  clear hv3 hB4 hp3 hn3 hn3e hNT e01
  go_wp2_with fail
  refine wp_region_class (Below w4.heap.size w4) (by kernel_rfl) (by kernel_rfl) (Below.refl _ _).drew ?_
  repeat (go_big_quiet_step (first | (intro hh; with_reducible exact HS.out _ hh) | (intro _; rfl)))
  refine wpQuiet_nil ?_
  intro w5 hBq
  have HB5 := Lib.hid (HB4.out.trans (hBq.mono HB4.out.size))
  have HV35 := Lib.hid (HV3.out.below hBq)
  have HVM5 := Lib.hid (HVM.out.below hBq)
  clear hBq
  go_wp2_with fail
  go_loopg [71] nm (fun g iv wr => ∃ k : Nat, k + g = nm ∧ iv = .int .i64 k ∧ Below w5.heap.size w5 wr)
  case atStart => exact ⟨0, by omega, rfl, Below.refl _ _⟩
  case round =>
    obtain ⟨i, hig, rfl, hBr⟩ := hrel
    by_cases hlt : i < nm
    · have hltI : (i : Int) < (nm : Int) := by omega
      obtain ⟨g1, o1, rfl⟩ := Hp2.out (by omega)
      have hiM : i < M.length := by have := Hnm.out; omega
      obtain ⟨⟨k, x, p⟩, hx⟩ : ∃ t, M[i]? = some t := ⟨_, List.getElem?_eq_getElem hiM⟩
      have hxN : N[n + i]? = some (k, x, A.size + p) := by
        rw [HE2.out, Hnn.out, List.getElem?_append_right (by omega), Nat.add_sub_cancel_left, List.getElem?_map, hx]; rfl
      obtain ⟨hg1, e0, e1, e2⟩ := HVM5.out.cells hx
      have f0 := (hBr.cell (p := ⟨g1, o1 + i * 3, none⟩) hg1).trans e0
      have f1 := (hBr.cell (p := ⟨g1, o1 + i * 3 + 1, none⟩) hg1).trans e1
      have f2 := (hBr.cell (p := ⟨g1, o1 + i * 3 + 2, none⟩) hg1).trans e2
      obtain ⟨hg3, d0, d1, d2⟩ := HV35.out.cells hxN
      have hlt3 : b3 < wr.heap.size := Nat.lt_of_lt_of_le hg3 hBr.size
      have hpB := (HT2.out _ (List.mem_of_getElem? hx)).2.2
      have hpB2 : p ≤ 4194304 := hpB
      have heq := fun w1 => eq_tk (HT3.out _ (List.mem_of_getElem? hxN)) (HT3.out _ (List.mem_of_getElem? hxN)) w1
      rw [decide_eq_true rfl] at heq
      have htk : (tkV (k, x, A.size + p)).toArray = #[.int .i64 k, .string x, .int .i64 ((p : Int) + ((a.size : Int) + 1))] := by
        show #[Value.int .i64 k, .string x, .int .i64 ((A.size + p : Nat) : Int)] = _
        rw [HAz.out, show ((a.size + 1 + p : Nat) : Int) = (p : Int) + ((a.size : Int) + 1) by omega]
      rw [htk] at heq
      have HBr := Lib.hid hBr
      have HD := Lib.hid (fun w1 (h1 : Below wr.heap.size wr w1) => (HV35.out.load hxN).2 w1 (hBr.trans (h1.mono hBr.size)))
      rw [htk] at HD
      clear hx hxN hpB hBr e0 e1 e2 d0 d1 d2 htk
      have hnew := heap_alloc_new wr (.cells #[.int .i64 k, .string x, .int .i64 ((p : Int) + ((a.size : Int) + 1))] 31)
      have hBa := (Below.refl wr.heap.size wr).alloc (Nat.le_refl _) (.cells #[.int .i64 k, .string x, .int .i64 ((p : Int) + ((a.size : Int) + 1))] 31)
      go_wp2_with fail
      generalize wr.alloc (.cells #[.int .i64 k, .string x, .int .i64 ((p : Int) + ((a.size : Int) + 1))] 31) = wa at *
      have hltw := lt_of_block hnew
      have HD2 := Lib.hid (fun w1 (h1 : Below wa.heap.size wa w1) => HD.out w1 (hBa.trans (h1.mono hBa.size)))
      have HX2 := Lib.hid (fun w1 (h1 : Below wa.heap.size wa w1) => run_loadVar_row (P := Tryd.prog) w1 wr.heap.size 31 31 _ (0, 0) _ ((h1.block wr.heap.size hltw).trans hnew) Tryd.underlying31 rfl (by kernel_rfl))
      have HBw := Lib.hid (HBr.out.trans (hBa.mono HBr.out.size))
      have hn3e := Hn3e.out
      have hni0 : (0 : Int) ≤ (n : Int) + (i : Int) := by omega
      have hni1 : (n : Int) + (i : Int) < (n3 : Int) := by omega
      have htn : ((n : Int) + (i : Int)).toNat = n + i := by omega
      clear hnew hBa hltw HD f0 f1 f2 hn3e
      refine wp_region_class (Below wa.heap.size wa) (by kernel_rfl) (by kernel_rfl) (Below.refl _ _).drew ?_
      repeat (go_big_quiet_step (first | (intro _; rfl)))
      refine wpQuiet_load_at rfl 31 (.tmp 87) rfl ⟨b3, off3 + (n + i) * 3, none⟩ rfl (.agg #[.int .i64 k, .string x, .int .i64 ((p : Int) + ((a.size : Int) + 1))]) HD2.out ?_
      simp only [Act.put, List.setIfInBounds_toArray, List.set_cons_succ, List.set_cons_zero]
      repeat (go_big_quiet_step (first | (intro _; rfl)))
      refine wpQuiet_load_at rfl 31 (.tmp 10) rfl ⟨wr.heap.size, 0, none⟩ rfl (.agg #[.int .i64 k, .string x, .int .i64 ((p : Int) + ((a.size : Int) + 1))]) HX2.out ?_
      simp only [Act.put, List.setIfInBounds_toArray, List.set_cons_succ, List.set_cons_zero]
      repeat (go_big_quiet_step (first | (intro _; rfl)))
      refine wpQuiet_nil ?_
      intro wq hBq
      have HBz := Lib.hid (HBw.out.trans (hBq.mono HBw.out.size))
      clear hBq
      go_wp2_with fail
      go_roundg (gk - 1)
      case measure => omega
      case rel => exact ⟨i + 1, by omega, by go_num, HBz.out⟩
    · have hnI : ¬ (i : Int) < (nm : Int) := by omega
      go_wp2_with fail
      go_ret
      exact ⟨rfl, HB5.out.trans (hBr.mono HB5.out.size)⟩
end Go.Proofs.YtejogobhnbjpdaaDoor
