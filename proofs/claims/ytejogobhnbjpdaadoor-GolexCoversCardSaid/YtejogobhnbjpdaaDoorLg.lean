/- Walks: the statement GolexCovers. -/
import Derived.Test.YtejogobhnbjpdaaDoorLf
import Derived.Test.YtejogobhnbjpdaaDoorRc
import Derived.Great.BuildSlice
import Derived.Laws.CopyOwn
namespace Go.Proofs.YtejogobhnbjpdaaDoor
set_option linter.unusedVariables false
set_option linter.unusedSimpArgs false
open Go.ChangeShapes Go.WideShapes Go.ChangeAt Go.RowKit

theorem skip_sk2 (b : ByteArray) : skipV b = (skN b : Nat) := by unfold skipV skN; split <;> rfl
theorem lexL_cov (s : ByteArray) : ∃ x t F, lexL s = x ++ [t] ∧ CovL s (skN s) ((lexL s).filter writ) (lexM s) F ∧ t.2.1 = ⟨#[]⟩ ∧
    ((t.1 = 7 ∧ (∀ u ∈ x, u.2.2 ≤ t.2.2) ∧ F ≤ t.2.2 ∧ t.2.2 ≤ s.size) ∨ (t.1 = 0 ∧ t.2.2 = s.size ∧ F ≤ s.size ∧ Gap s F s.size)) := by
  obtain ⟨x, y, t, F, h1, h2, _, _, h5, h6⟩ := (covers_ok s (skN s) [] [] (skN_le s) (skN s) (Nat.le_refl _) .nil).f
  have hL : lexL s = x ++ [t] := by unfold lexL; rw [h1]; rfl
  have hM : lexM s = y := by unfold lexM; rw [h1]; rfl
  refine ⟨x, t, F, hL, ?_, h5, ?_⟩
  · rw [hL, hM, List.filter_append, writ_empty (x := [t]) (fun u hu => by rw [List.mem_singleton.1 hu]; exact h5), List.append_nil]
    exact h2
  · rcases h6 with ⟨a, _, b, c, d⟩ | h
    · exact .inl ⟨a, b, c, d⟩
    · exact .inr h
theorem drop_filter {l : List Tk} {i : Nat} {t : Tk} (h : l[i]? = some t) : (l.drop i).filter writ = if writ t = true then t :: (l.drop (i + 1)).filter writ else (l.drop (i + 1)).filter writ := by
  have hi := (List.getElem?_eq_some_iff.1 h).1
  rw [List.drop_eq_getElem_cons hi]
  have ht : l[i] = t := (List.getElem?_eq_some_iff.1 h).2
  rw [ht, List.filter_cons]
theorem drop_cons {l : List Tk} {i : Nat} {t : Tk} (h : l[i]? = some t) : l.drop i = t :: l.drop (i + 1) := by
  have hi := (List.getElem?_eq_some_iff.1 h).1
  rw [List.drop_eq_getElem_cons hi, (List.getElem?_eq_some_iff.1 h).2]
theorem writ_size {t : Tk} : writ t = true ↔ t.2.1.size ≠ 0 := by unfold writ; exact decide_eq_true_iff
theorem CovL.inv_tok {s : ByteArray} {a F : Nat} {t : Tk} {W M : List Tk} (h : CovL s a (t :: W) M F) (hlt : ∀ u, M.head? = some u → t.2.2 < u.2.2) : TkOk s a t ∧ CovL s (t.2.2 + t.2.1.size) W M F := by
  cases h with
  | tok _ _ _ _ _ h1 _ h3 => exact ⟨h1, h3⟩
  | note _ _ u _ M2 h1 h2 h3 => exact absurd (hlt u rfl) (h2 t rfl)
theorem CovL.inv_note {s : ByteArray} {a F : Nat} {u : Tk} {W M : List Tk} (h : CovL s a W (u :: M) F) (hge : ∀ t, W.head? = some t → ¬ t.2.2 < u.2.2) : TkOk s a u ∧ CovL s (u.2.2 + u.2.1.size) W M F := by
  cases h with
  | tok _ _ t W2 _ h1 h2 h3 => exact absurd (h2 u rfl) (hge t rfl)
  | note _ _ _ _ _ h1 h2 h3 => exact ⟨h1, h3⟩
theorem CovL.inv_nil {s : ByteArray} {a F : Nat} {W M : List Tk} (h : CovL s a W M F) (hW : W = []) (hM : M = []) : a = F := by
  cases h with
  | nil => rfl
  | tok => cases hW
  | note => cases hM
theorem CovL.le {s : ByteArray} {a F : Nat} {W M : List Tk} (h : CovL s a W M F) : a ≤ F := by
  induction h with
  | nil => exact Nat.le_refl _
  | tok a F t W M h1 h2 h3 ih => have := h1.1; omega
  | note a F t W M h1 h2 h3 ih => have := h1.1; omega
structure BoxA (w : World) (B : Nat) (cs : Array Value) (u : World) : Prop where
  k : u.heap[B]? = some (.cells cs 31 (0, 0))
  b : Below w.heap.size w u
theorem boxA_made (w : World) (cs : Array Value) : BoxA w w.heap.size cs (w.alloc (.cells cs 31)) := ⟨heap_alloc_new w _, (Below.refl _ w).alloc (Nat.le_refl _) _⟩
theorem boxA_set (w w1 : World) (B : Nat) (old cs : Array Value) (h : w1.heap[B]? = some (.cells old 31 (0, 0))) (hb : Below w.heap.size w w1) (hB : w.heap.size ≤ B) : BoxA w B cs (w1.setRow B cs) :=
  ⟨setRow_heap _ _ _ _ _ _ h, below_setRow hb hB _⟩
theorem BoxA.below {w u u' : World} {B : Nat} {cs : Array Value} (h : BoxA w B cs u) (hB : Below u.heap.size u u') : BoxA w B cs u' :=
  ⟨(hB.block B (lt_of_block h.k)).trans h.k, h.b.trans (hB.mono h.b.size)⟩
theorem boxA_abs {ops : Array Oper} {rest : List Oper} {Q : Exit → Act → World → Prop} {a : Act} {w w' : World} {B : Nat} {cs : Array Value} (hb : BoxA w B cs w') (h : ∀ u, BoxA w B cs u → wpList Tryd.prog ops Q rest a u) : wpList Tryd.prog ops Q rest a w' := h _ hb
theorem boxA_absC {c : Code} {Q : Exit → Act → World → Prop} {a : Act} {w w' : World} {B : Nat} {cs : Array Value} (hb : BoxA w B cs w') (h : ∀ u, BoxA w B cs u → c.wp Tryd.prog Q a u) : c.wp Tryd.prog Q a w' := h _ hb
theorem boxA_set3 (w w1 : World) (B : Nat) (a b c x y z : Value) (h : w1.heap[B]? = some (.cells #[a, b, c] 31 (0, 0))) (hb : Below w.heap.size w w1) (hB : w.heap.size ≤ B) :
    BoxA w B #[x, y, z] (((w1.setCell ⟨B, 0, none⟩ x).setCell ⟨B, 1, none⟩ y).setCell ⟨B, 2, none⟩ z) := by
  rw [set3 w1 B a b c x y z 31 (0, 0) h]
  exact boxA_set w w1 B _ _ h hb hB
theorem size31 : (Tryd.prog.info? 31).map (·.size) = some 3 := by as_aux_lemma => kernel_rfl
theorem ext_neq (x : ByteArray) {y : ByteArray} (h : y = x) : (y.toList != x.toList) = false := by subst h; rw [bne, beq_self_eq_true]; rfl
set_option maxRecDepth 100000 in
set_option maxHeartbeats 10000000 in
theorem covers_walk (s : ByteArray) (w : World) (hs0 : s.size ≤ 140737488351232) (hTab : Tabs w) : Calls Tryd.prog 4 #[.string s] w (LawEnd w) := by
  have HA := Lib.hid (alive_any w hTab)
  have HT := Lib.hid hTab
  clear hTab
  by_cases hbig : 2048 < s.size
  · have hbI : (2048 : Int) < (s.size : Int) := by omega
    go_enter Tryd.func4, Tryd.ntmps4
    go_wp2_with fail
    refine HA.out.mono ?_
    rintro r w1 ⟨rfl, hB⟩
    have HB := Lib.hid hB
    clear hB
    go_wp2_with fail
    go_ret
    exact ⟨rfl, HB.out⟩
  have hbI : ¬ (2048 : Int) < (s.size : Int) := by omega
  have HL1 := Lib.hid (fun w1 (h1 : Below w.heap.size w w1) => lex_any s w1 (by omega) (tabs_below HT.out h1))
  have HL2 := Lib.hid (fun w1 (h1 : Below w.heap.size w w1) => notes_any s w1 (by omega) (tabs_below HT.out h1))
  have HSK := Lib.hid (fun w1 => refSkip_any s w1 (by omega))
  rw [skip_sk2] at HSK
  have HT1 := Lib.hid (lexL_tkb (s := s) (by omega))
  have HT2 := Lib.hid (lexM_tkb (s := s) (by omega))
  have hl1 := (lexL_len s).1
  have hl2 := (lexL_len s).2
  have hsk := skN_le s
  obtain ⟨X, t, F, hLX, hcov, ht0, hend⟩ := lexL_cov s
  generalize skN s = sk at *
  generalize lexL s = L at *
  generalize lexM s = M at *
  obtain ⟨kt, xt, pt⟩ := t
  have ht0 : xt = ⟨#[]⟩ := ht0
  subst ht0
  obtain ⟨n, hn⟩ : ∃ n, n = X.length := ⟨_, rfl⟩
  obtain ⟨nm, hnm⟩ : ∃ nm, nm = M.length := ⟨_, rfl⟩
  have hLn : L.length = n + 1 := by rw [hLX, hn]; simp
  have hx : L[n]? = some (kt, ⟨#[]⟩, pt) := by rw [hLX, hn, List.getElem?_append_right (Nat.le_refl _), Nat.sub_self]; rfl
  have hpt : pt ≤ s.size := by rcases hend with h | h <;> (have := h.2; first | (exact h.2.2.2) | (have e : pt = s.size := h.2.1; omega))
  have hkt : kt = 7 ∨ kt = 0 := by rcases hend with h | h; (· exact .inl h.1); (· exact .inr h.1)
  have HX := Lib.hid (show ∀ i u, i < n → L[i]? = some u → kt = 7 → u.2.2 ≤ pt from fun i u hi hu hk => by
    rcases hend with h | h
    · rw [hLX, List.getElem?_append_left (by omega)] at hu
      exact h.2.1 u (List.mem_of_getElem? hu)
    · have e : kt = 0 := h.1; omega)
  have HEnd := Lib.hid (show (kt = 7 → F ≤ pt) ∧ (kt = 0 → pt = s.size ∧ F ≤ s.size ∧ Gap s F s.size) from ⟨fun hk => by
    rcases hend with h | h
    · exact h.2.2.1
    · have e : kt = 0 := h.1; omega, fun hk => by
    rcases hend with h | h
    · have e : kt = 7 := h.1; omega
    · exact h.2⟩)
  have Hcov := Lib.hid hcov
  have Hx := Lib.hid hx
  have HLn := Lib.hid hLn
  have Hnm := Lib.hid hnm
  have hnb : n ≤ 4096 := by omega
  have hnmb : nm ≤ 4096 := by omega
  clear hLX hcov hend hn hnm hLn hx hl1 hl2
  go_enter Tryd.func4, Tryd.ntmps4
  go_wp2_with fail
  refine HA.out.mono ?_
  rintro r w1 ⟨rfl, hB⟩
  have HB1 := Lib.hid hB
  clear hB
  go_wp2_with fail
  refine (HL1.out _ HB1.out).mono ?_
  rintro r w2 ⟨v, rfl, hv, hB2⟩
  obtain ⟨pp, cap, rfl, hp⟩ := hv.shape
  obtain ⟨g1, o1, rfl⟩ := hp (by rw [HLn.out]; omega)
  have HB2 := Lib.hid (HB1.out.trans (hB2.mono HB1.out.size))
  have HV := Lib.hid hv
  clear hv hB2 hp
  rw [HLn.out] at HV ⊢
  go_wp2_with fail
  refine (HL2.out _ HB2.out).mono ?_
  rintro r w3 ⟨v2, rfl, hv2, hB3⟩
  obtain ⟨p2, cap2, rfl, hp2⟩ := hv2.shape
  have HV1 := Lib.hid (HV.out.below hB3)
  have HB := Lib.hid (HB2.out.trans (hB3.mono HB2.out.size))
  have HV2 := Lib.hid hv2
  have Hp2 := Lib.hid hp2
  clear hv2 hB3 hp2 HV
  rw [← Hnm.out] at HV2 Hp2 ⊢
  have hV1 := HV1.out
  obtain ⟨hg1, e0, e1, e2⟩ := hV1.cells Hx.out
  clear hV1
  go_wp2_with fail
  refine (HSK.out _).mono ?_
  rintro r w4 ⟨rfl, rfl⟩
  have hnn1 : (n : Int) + 1 - 1 = n := by omega
  have hn10 : ((n : Int) + 1 == 0) = false := beq_eq_false_iff_ne.2 (by omega)
  have Hbm := Lib.hid (boxA_made w3 #[.int .i64 kt, .string ⟨#[]⟩, .int .i64 pt])
  have Hkt := Lib.hid hkt
  clear hkt
  have Hg1 := Lib.hid hg1
  clear hg1
  rcases Hkt.out with rfl | rfl
  · have HXb := Lib.hid (fun i u (hi : i < n) hu => HX.out i u hi hu rfl)
    have HF := Lib.hid (HEnd.out.1 rfl)
    have Hbm : Hid (BoxA w3 w3.heap.size #[.int .i64 7, .string ⟨#[]⟩, .int .i64 pt] (w3.alloc (.cells #[.int .i64 7, .string ⟨#[]⟩, .int .i64 pt] 31))) := Hbm
    go_wp2_with fail
    generalize w3.alloc (.cells #[.int .i64 7, .string ⟨#[]⟩, .int .i64 pt] 31) = wb at *
    have HBb := Lib.hid (HB.out.trans (Hbm.out.b.mono HB.out.size))
    have HVb := Lib.hid (HV1.out.below Hbm.out.b)
    have HMb := Lib.hid (HV2.out.below Hbm.out.b)
    have hcB := block_cell Hbm.out.k 2
    go_loopg [8] n (fun g iv wr => ∃ i : Nat, i + g = n ∧ iv = .int .i64 i ∧ Below wb.heap.size wb wr)
    case atStart => exact ⟨0, by omega, rfl, Below.refl _ _⟩
    case round =>
      obtain ⟨i, hig, rfl, hBr⟩ := hrel
      have HBr := Lib.hid hBr
      have hltb := lt_of_block Hbm.out.k
      have d2 := (hBr.cell (p := ⟨w3.heap.size, 2, none⟩) hltb).trans hcB
      clear hBr hltb
      by_cases hlt : i < n
      · have hltI : (i : Int) < (n : Int) := by omega
        obtain ⟨⟨ki, xi, pi_⟩, hui⟩ : ∃ u, L[i]? = some u := ⟨_, List.getElem?_eq_getElem (by have := HLn.out; omega)⟩
        obtain ⟨_, q0, q1, q2⟩ := (HVb.out.below (HBr.out)).cells hui
        have hle : pi_ ≤ pt := HXb.out i _ hlt hui
        have hleI : ¬ (pt : Int) < (pi_ : Int) := by omega
        have hpib : pi_ ≤ 4194304 := by omega
        have hil : i < n + 1 := by omega
        have hilI : (i : Int) < (n : Int) + 1 := by omega
        clear q0 q1 hui hcB e0 e1 e2
        go_wp2_with fail
        go_quiet (fail)
        have HBn := Lib.hid (below_drewN HBr.out nq)
        go_wp2_with fail
        go_roundg (gk - 1)
        case measure => omega
        case rel => exact ⟨i + 1, by omega, by go_num, HBn.out⟩
      · have hltI : ¬ (i : Int) < (n : Int) := by omega
        have HB5 := Lib.hid (HBb.out.trans (HBr.out.mono HBb.out.size))
        have HV5 := Lib.hid (HVb.out.below HBr.out)
        have HM5 := Lib.hid (HMb.out.below HBr.out)
        have hF : F ≤ pt := HF.out
        clear HVb HMb HBr Hbm hcB d2 e0 e1 e2 HBb HXb
        generalize hwz : wr = w5 at *
        clear hwz
        go_wp2_with fail
        go_loopg [5, 9, 10] (n + 1 + nm) (fun g av iv kv wr => ∃ (i k a : Nat), av = .int .i64 a ∧ iv = .int .i64 i ∧ kv = .int .i64 k ∧ i ≤ n + 1 ∧ k ≤ nm ∧ i + k + g = n + 1 + nm ∧ Hid (CovL s a ((L.drop i).filter writ) (M.drop k) F) ∧ Hid (Below w5.heap.size w5 wr))
        case atStart => exact ⟨0, 0, sk, rfl, rfl, rfl, Nat.zero_le _, Nat.zero_le _, by omega, by rw [List.drop_zero, List.drop_zero]; exact Hcov, Lib.hid (Below.refl _ _)⟩
        case round =>
          obtain ⟨i, k, a, rfl, rfl, rfl, hin, hkn, hig, HC, HBr⟩ := hrel
          have haF := HC.out.le
          have HVr := Lib.hid (HV5.out.below HBr.out)
          have HMr := Lib.hid (HM5.out.below HBr.out)
          have hab : a ≤ 1048576 := by omega
          by_cases hdone : i = n + 1 ∧ k = nm
          · obtain ⟨rfl, rfl⟩ := hdone
            have hd1 : ¬ ((n : Int) + 1) < (n : Int) + 1 := by omega
            have hd2 : ¬ (k : Int) < (k : Int) := by omega
            obtain rfl : a = F := HC.out.inv_nil (by rw [List.drop_of_length_le (by rw [HLn.out]; omega)]; rfl) (by rw [List.drop_of_length_le (by rw [← Hnm.out]; omega)])
            have hstop : (a : Int) ≤ (pt : Int) := by omega
            obtain ⟨_, e0, e1, e2⟩ := (HV5.out.below HBr.out).cells Hx.out
            clear e1 e2
            go_wp2_with fail
            go_ret
            exact ⟨rfl, HB5.out.trans (HBr.out.mono HB5.out.size)⟩
          have HLEN := Lib.hid HLn.out
          have hcs : i < n + 1 ∨ (i = n + 1 ∧ k < nm) := by omega
          obtain ⟨gko, rfl⟩ : ∃ g, g = gk := ⟨gk, rfl⟩
          obtain ⟨wo, rfl⟩ : ∃ x, x = wr := ⟨wr, rfl⟩
          clear hdone
          rcases hcs with hi | ⟨rfl, hk2o⟩
          · have hiI : (i : Int) < (n : Int) + 1 := by omega
            go_wp2_with fail
            clear hiI
            go_loopg [9] (n + 1 - (i)) (fun g2 iv2 wr2 => ∃ i2 : Nat, i ≤ i2 ∧ i2 + g2 = n + 1 ∧ iv2 = .int .i64 i2 ∧ Hid (CovL s a ((L.drop i2).filter writ) (M.drop k) F) ∧ wr2 = wo)
            case atStart => exact ⟨i, Nat.le_refl _, by omega, by go_num, HC, rfl⟩
            case round =>
              obtain ⟨i2, hii, hig2, rfl, HC2, rfl⟩ := hrel
              by_cases hi2 : i2 < n + 1
              · have hi2I : (i2 : Int) < (n : Int) + 1 := by omega
                obtain ⟨⟨kx, tx, px⟩, hx2⟩ : ∃ u, L[i2]? = some u := ⟨_, List.getElem?_eq_getElem (by have := HLn.out; omega)⟩
                have hxb := HT1.out _ (List.mem_of_getElem? hx2)
                obtain ⟨_, q0, q1, q2⟩ := HVr.out.cells hx2
                have hee := isEmpty_eq tx
                by_cases hz : tx.size = 0
                · rw [decide_eq_true hz] at hee
                  have HN2 := Lib.hid (show CovL s a ((L.drop (i2 + 1)).filter writ) (M.drop k) F from by
                    have h := HC2.out
                    rw [drop_filter hx2, if_neg (fun h => writ_size.1 h hz)] at h
                    exact h)
                  have hpx : px ≤ 4194304 := hxb.2.2
                  have htx : tx.size ≤ 4194304 := hxb.2.1
                  clear hz hxb hx2
                  go_wp2_with fail
                  go_roundg (gk - 1)
                  case measure => omega
                  case rel => exact ⟨i2 + 1, by omega, by omega, by go_num, HN2, rfl⟩
                · rw [decide_eq_false hz] at hee
                  have Hbx := Lib.hid (boxA_made wr #[.int .i64 0, .string ⟨#[]⟩, .int .i64 s.size])
                  have hpx : px ≤ 4194304 := hxb.2.2
                  have htx : tx.size ≤ 4194304 := hxb.2.1
                  clear hxb
                  go_wp2_with fail
                  generalize wr.alloc (.cells #[.int .i64 0, .string ⟨#[]⟩, .int .i64 s.size] 31) = wx at *
                  by_cases hk2 : k < nm
                  · have hkI : (k : Int) < (nm : Int) := by omega
                    have hkg : ¬ (nm : Int) ≤ (k : Int) := by omega
                    have hkd : decide (nm ≤ k) = false := decide_eq_false (by omega)
                    have hkd2 : decide ((nm : Int) ≤ (k : Int)) = false := decide_eq_false (by omega)
                    have hid : decide (i2 < n + 1) = true := decide_eq_true hi2
                    obtain ⟨⟨ku, xu, pu⟩, hu⟩ : ∃ t, M[k]? = some t := ⟨_, List.getElem?_eq_getElem (by have := Hnm.out; omega)⟩
                    obtain ⟨g2, o2, rfl⟩ := Hp2.out (by omega)
                    have hub := HT2.out _ (List.mem_of_getElem? hu)
                    have hpu : pu ≤ 4194304 := hub.2.2
                    have hxu : xu.size ≤ 4194304 := hub.2.1
                    clear hub
                    obtain ⟨_, q0, q1, q2⟩ := (HVr.out.below Hbx.out.b).cells hx2
                    obtain ⟨_, r0, r1, r2⟩ := (HMr.out.below Hbx.out.b).cells hu
                    by_cases hpp : px < pu
                    · have hppI : (px : Int) < (pu : Int) := by omega
                      have hppd : decide (px < pu) = true := decide_eq_true hpp
                      have hok0 := CovL.inv_tok (by have h := HC2.out; rw [drop_filter hx2, if_pos (writ_size.2 hz)] at h; exact h) (fun u h => by rw [drop_cons hu] at h; injection h with h; rw [← h]; exact hpp)
                      obtain ⟨hok, hcv⟩ := hok0
                      go_quiet (fail)
                      clear q0 q1 q2 r0 r1 r2
                      have HXY := Lib.hid (Hbx.out.below (below_drewN (Below.refl _ _) nq))
                      generalize wx.drewN nq = wy at *
                      obtain ⟨_, q0, q1, q2⟩ := (HVr.out.below HXY.out.b).cells hx2
                      have HBy := Lib.hid (HBr.out.trans (HXY.out.b.mono HBr.out.size))
                      have c0 := block_cell HXY.out.k 0
                      have c1 := block_cell HXY.out.k 1
                      have c2 := block_cell HXY.out.k 2
                      have f0 := block_free HXY.out.k 0
                      have f1 := block_free HXY.out.k 1
                      have f2 := block_free HXY.out.k 2
                      clear Hbx
                      go_wp2_with fail
                      clear c0 c1 c2 f0 f1 f2
                      have hbz := boxA_set3 wr wy _ _ _ _ (.int .i64 kx) (.string tx) (.int .i64 px) HXY.out.k HXY.out.b (Nat.le_refl _)
                      generalize ((wy.setCell ⟨wr.heap.size, 0, none⟩ (.int .i64 kx)).setCell ⟨wr.heap.size, 1, none⟩ (.string tx)).setCell ⟨wr.heap.size, 2, none⟩ (.int .i64 px) = wz at *
                      have HZ := Lib.hid hbz
                      have HBz := Lib.hid (HBr.out.trans (hbz.b.mono HBr.out.size))
                      clear hbz HXY HBy
                      clear q0 q1 q2
                      obtain ⟨hta, hts, hte, htg⟩ := hok
                      have hta : a ≤ px := hta
                      have hts : px + tx.size ≤ s.size := hts
                      have hte : s.extract px (px + tx.size) = tx := hte
                      have HLp := Lib.hid (fun w1 (h1 : Below wz.heap.size wz w1) => (by have e := (h1.cell (p := ⟨wr.heap.size, 2, none⟩) (lt_of_block HZ.out.k)).trans (block_cell HZ.out.k 2); simp [go_sem, e] : (loadVar 3 ⟨wr.heap.size, 2, none⟩).run Tryd.prog w1 = .ok (.int .i64 px) w1))
                      have HLt := Lib.hid (fun w1 (h1 : Below wz.heap.size wz w1) => (by have e := (h1.cell (p := ⟨wr.heap.size, 1, none⟩) (lt_of_block HZ.out.k)).trans (block_cell HZ.out.k 1); simp [go_sem, e] : (loadVar 9 ⟨wr.heap.size, 1, none⟩).run Tryd.prog w1 = .ok (.string tx) w1))
                      have HBL := Lib.hid (fun w1 (h1 : Below wz.heap.size wz w1) => (blank20 (s.extract a px) w1 (by rw [ByteArray.size_extract]; omega) (gap_ext htg hta (by show px ≤ s.size; omega))).mono (fun e w2 hh => (⟨hh.1, hh.2 ▸ h1⟩ : e = .returned (.bool true) ∧ Below wz.heap.size wz w2)))
                      have hneq := ext_neq _ hte
                      have HN := Lib.hid hcv
                      have d1 : decide ((px : Int) < (a : Int)) = false := decide_eq_false (by omega)
                      have d1n : decide (px < a) = false := decide_eq_false (by omega)
                      have d2 : decide ((s.size : Int) - (tx.size : Int) < (px : Int)) = false := decide_eq_false (by omega)
                      have hw1 : IntKind.i64.wrap ((s.size : Int) - (tx.size : Int)) = (s.size : Int) - (tx.size : Int) := by simp [IntKind.wrap, IntKind.bits, IntKind.signed]; omega
                      have hw2 : IntKind.i64.wrap ((px : Int) + (tx.size : Int)) = ((px + tx.size : Nat) : Int) := by simp [IntKind.wrap, IntKind.bits, IntKind.signed]; omega
                      refine wp_region_class (Below wz.heap.size wz) (by kernel_rfl) (by kernel_rfl) (Below.refl _ _).drew ?_
                      repeat (go_big_quiet_step (first | (intro _; rfl)))
                      refine wpQuiet_load_at (by simp [Region.wanted, yielded, Act.put]) 3 (.tmp 130) rfl ⟨wr.heap.size, 2, none⟩ rfl (.int .i64 px) HLp.out ?_
                      simp only [Act.put, List.setIfInBounds_toArray, List.set_cons_succ, List.set_cons_zero]
                      repeat (go_big_quiet_step (first | (intro _; rfl)))
                      refine wpQuiet_load_at (by simp [Region.wanted, yielded, Act.put]) 3 (.tmp 135) rfl ⟨wr.heap.size, 2, none⟩ rfl (.int .i64 px) HLp.out ?_
                      simp only [Act.put, List.setIfInBounds_toArray, List.set_cons_succ, List.set_cons_zero]
                      repeat (go_big_quiet_step (first | (intro _; rfl)))
                      refine wpQuiet_load_at (by simp [Region.wanted, yielded, Act.put]) 9 (.tmp 139) rfl ⟨wr.heap.size, 1, none⟩ rfl (.string tx) HLt.out ?_
                      simp only [Act.put, List.setIfInBounds_toArray, List.set_cons_succ, List.set_cons_zero]
                      repeat (go_big_quiet_step (first | (intro _; rfl)))
                      refine wpQuiet_load_at (by simp [Region.wanted, yielded, Act.put]) 3 (.tmp 147) rfl ⟨wr.heap.size, 2, none⟩ rfl (.int .i64 px) HLp.out ?_
                      simp only [Act.put, List.setIfInBounds_toArray, List.set_cons_succ, List.set_cons_zero]
                      repeat (go_big_quiet_step (first | (intro _; rfl)))
                      refine wpQuiet_load_at (by simp [Region.wanted, yielded, Act.put]) 3 (.tmp 149) rfl ⟨wr.heap.size, 2, none⟩ rfl (.int .i64 px) HLp.out ?_
                      simp only [Act.put, List.setIfInBounds_toArray, List.set_cons_succ, List.set_cons_zero]
                      repeat (go_big_quiet_step (first | (intro _; rfl)))
                      refine wpQuiet_load_at (by simp [Region.wanted, yielded, Act.put]) 9 (.tmp 151) rfl ⟨wr.heap.size, 1, none⟩ rfl (.string tx) HLt.out ?_
                      simp only [Act.put, List.setIfInBounds_toArray, List.set_cons_succ, List.set_cons_zero]
                      repeat (go_big_quiet_step (first | (intro _; rfl)))
                      refine wpQuiet_load_at (by simp [Region.wanted, yielded, Act.put]) 9 (.tmp 156) rfl ⟨wr.heap.size, 1, none⟩ rfl (.string tx) HLt.out ?_
                      simp only [Act.put, List.setIfInBounds_toArray, List.set_cons_succ, List.set_cons_zero]
                      repeat (go_big_quiet_step (first | (intro _; rfl)))
                      refine wpQuiet_load_at (by simp [Region.wanted, yielded, Act.put]) 3 (.tmp 163) rfl ⟨wr.heap.size, 2, none⟩ rfl (.int .i64 px) HLp.out ?_
                      simp only [Act.put, List.setIfInBounds_toArray, List.set_cons_succ, List.set_cons_zero]
                      repeat (go_big_quiet_step (first | (intro hh; with_reducible exact HBL.out _ hh) | (intro _; rfl)))
                      refine wpQuiet_nil ?_
                      intro wq hBq
                      have HZq := Lib.hid (HZ.out.below hBq)
                      have HBq := Lib.hid (HBz.out.trans (hBq.mono HBz.out.size))
                      have c1 := block_cell HZq.out.k 1
                      have c2 := block_cell HZq.out.k 2
                      clear hBq d1 d1n d2 hw1 hw2 hneq hte htg
                      go_wp2_with fail
                      go_roundg (gko - (i2 + 1 + k - (i + k)))
                      case measure => omega
                      case rel => exact ⟨i2 + 1, k, px + tx.size, by go_num, by go_num, by go_num, by omega, by omega, by omega, HN, HBq⟩
                    · have hppI : ¬ (px : Int) < (pu : Int) := by omega
                      have hppd : decide (px < pu) = false := decide_eq_false hpp
                      have hok0 := CovL.inv_note (by have h := HC2.out; rw [drop_cons hu] at h; exact h) (fun t h => by rw [drop_filter hx2, if_pos (writ_size.2 hz)] at h; injection h with h; rw [← h]; exact hpp)
                      obtain ⟨hok, hcv⟩ := hok0
                      go_quiet (fail)
                      clear q0 q1 q2 r0 r1 r2
                      have HXY := Lib.hid (Hbx.out.below (below_drewN (Below.refl _ _) nq))
                      generalize wx.drewN nq = wy at *
                      obtain ⟨_, q0, q1, q2⟩ := (HMr.out.below HXY.out.b).cells hu
                      have HBy := Lib.hid (HBr.out.trans (HXY.out.b.mono HBr.out.size))
                      have c0 := block_cell HXY.out.k 0
                      have c1 := block_cell HXY.out.k 1
                      have c2 := block_cell HXY.out.k 2
                      have f0 := block_free HXY.out.k 0
                      have f1 := block_free HXY.out.k 1
                      have f2 := block_free HXY.out.k 2
                      clear Hbx
                      go_wp2_with fail
                      clear c0 c1 c2 f0 f1 f2
                      have hbz := boxA_set3 wr wy _ _ _ _ (.int .i64 ku) (.string xu) (.int .i64 pu) HXY.out.k HXY.out.b (Nat.le_refl _)
                      generalize ((wy.setCell ⟨wr.heap.size, 0, none⟩ (.int .i64 ku)).setCell ⟨wr.heap.size, 1, none⟩ (.string xu)).setCell ⟨wr.heap.size, 2, none⟩ (.int .i64 pu) = wz at *
                      have HZ := Lib.hid hbz
                      have HBz := Lib.hid (HBr.out.trans (hbz.b.mono HBr.out.size))
                      clear hbz HXY HBy
                      clear q0 q1 q2
                      obtain ⟨hta, hts, hte, htg⟩ := hok
                      have hta : a ≤ pu := hta
                      have hts : pu + xu.size ≤ s.size := hts
                      have hte : s.extract pu (pu + xu.size) = xu := hte
                      have HLp := Lib.hid (fun w1 (h1 : Below wz.heap.size wz w1) => (by have e := (h1.cell (p := ⟨wr.heap.size, 2, none⟩) (lt_of_block HZ.out.k)).trans (block_cell HZ.out.k 2); simp [go_sem, e] : (loadVar 3 ⟨wr.heap.size, 2, none⟩).run Tryd.prog w1 = .ok (.int .i64 pu) w1))
                      have HLt := Lib.hid (fun w1 (h1 : Below wz.heap.size wz w1) => (by have e := (h1.cell (p := ⟨wr.heap.size, 1, none⟩) (lt_of_block HZ.out.k)).trans (block_cell HZ.out.k 1); simp [go_sem, e] : (loadVar 9 ⟨wr.heap.size, 1, none⟩).run Tryd.prog w1 = .ok (.string xu) w1))
                      have HBL := Lib.hid (fun w1 (h1 : Below wz.heap.size wz w1) => (blank20 (s.extract a pu) w1 (by rw [ByteArray.size_extract]; omega) (gap_ext htg hta (by show pu ≤ s.size; omega))).mono (fun e w2 hh => (⟨hh.1, hh.2 ▸ h1⟩ : e = .returned (.bool true) ∧ Below wz.heap.size wz w2)))
                      have hneq := ext_neq _ hte
                      have HN := Lib.hid hcv
                      have d1 : decide ((pu : Int) < (a : Int)) = false := decide_eq_false (by omega)
                      have d1n : decide (pu < a) = false := decide_eq_false (by omega)
                      have d2 : decide ((s.size : Int) - (xu.size : Int) < (pu : Int)) = false := decide_eq_false (by omega)
                      have hw1 : IntKind.i64.wrap ((s.size : Int) - (xu.size : Int)) = (s.size : Int) - (xu.size : Int) := by simp [IntKind.wrap, IntKind.bits, IntKind.signed]; omega
                      have hw2 : IntKind.i64.wrap ((pu : Int) + (xu.size : Int)) = ((pu + xu.size : Nat) : Int) := by simp [IntKind.wrap, IntKind.bits, IntKind.signed]; omega
                      refine wp_region_class (Below wz.heap.size wz) (by kernel_rfl) (by kernel_rfl) (Below.refl _ _).drew ?_
                      repeat (go_big_quiet_step (first | (intro _; rfl)))
                      refine wpQuiet_load_at (by simp [Region.wanted, yielded, Act.put]) 3 (.tmp 130) rfl ⟨wr.heap.size, 2, none⟩ rfl (.int .i64 pu) HLp.out ?_
                      simp only [Act.put, List.setIfInBounds_toArray, List.set_cons_succ, List.set_cons_zero]
                      repeat (go_big_quiet_step (first | (intro _; rfl)))
                      refine wpQuiet_load_at (by simp [Region.wanted, yielded, Act.put]) 3 (.tmp 135) rfl ⟨wr.heap.size, 2, none⟩ rfl (.int .i64 pu) HLp.out ?_
                      simp only [Act.put, List.setIfInBounds_toArray, List.set_cons_succ, List.set_cons_zero]
                      repeat (go_big_quiet_step (first | (intro _; rfl)))
                      refine wpQuiet_load_at (by simp [Region.wanted, yielded, Act.put]) 9 (.tmp 139) rfl ⟨wr.heap.size, 1, none⟩ rfl (.string xu) HLt.out ?_
                      simp only [Act.put, List.setIfInBounds_toArray, List.set_cons_succ, List.set_cons_zero]
                      repeat (go_big_quiet_step (first | (intro _; rfl)))
                      refine wpQuiet_load_at (by simp [Region.wanted, yielded, Act.put]) 3 (.tmp 147) rfl ⟨wr.heap.size, 2, none⟩ rfl (.int .i64 pu) HLp.out ?_
                      simp only [Act.put, List.setIfInBounds_toArray, List.set_cons_succ, List.set_cons_zero]
                      repeat (go_big_quiet_step (first | (intro _; rfl)))
                      refine wpQuiet_load_at (by simp [Region.wanted, yielded, Act.put]) 3 (.tmp 149) rfl ⟨wr.heap.size, 2, none⟩ rfl (.int .i64 pu) HLp.out ?_
                      simp only [Act.put, List.setIfInBounds_toArray, List.set_cons_succ, List.set_cons_zero]
                      repeat (go_big_quiet_step (first | (intro _; rfl)))
                      refine wpQuiet_load_at (by simp [Region.wanted, yielded, Act.put]) 9 (.tmp 151) rfl ⟨wr.heap.size, 1, none⟩ rfl (.string xu) HLt.out ?_
                      simp only [Act.put, List.setIfInBounds_toArray, List.set_cons_succ, List.set_cons_zero]
                      repeat (go_big_quiet_step (first | (intro _; rfl)))
                      refine wpQuiet_load_at (by simp [Region.wanted, yielded, Act.put]) 9 (.tmp 156) rfl ⟨wr.heap.size, 1, none⟩ rfl (.string xu) HLt.out ?_
                      simp only [Act.put, List.setIfInBounds_toArray, List.set_cons_succ, List.set_cons_zero]
                      repeat (go_big_quiet_step (first | (intro _; rfl)))
                      refine wpQuiet_load_at (by simp [Region.wanted, yielded, Act.put]) 3 (.tmp 163) rfl ⟨wr.heap.size, 2, none⟩ rfl (.int .i64 pu) HLp.out ?_
                      simp only [Act.put, List.setIfInBounds_toArray, List.set_cons_succ, List.set_cons_zero]
                      repeat (go_big_quiet_step (first | (intro hh; with_reducible exact HBL.out _ hh) | (intro _; rfl)))
                      refine wpQuiet_nil ?_
                      intro wq hBq
                      have HZq := Lib.hid (HZ.out.below hBq)
                      have HBq := Lib.hid (HBz.out.trans (hBq.mono HBz.out.size))
                      have c1 := block_cell HZq.out.k 1
                      have c2 := block_cell HZq.out.k 2
                      clear hBq d1 d1n d2 hw1 hw2 hneq hte htg
                      go_wp2_with fail
                      go_roundg (gko - (i2 + k + 1 - (i + k)))
                      case measure => omega
                      case rel => exact ⟨i2, k + 1, pu + xu.size, by go_num, by go_num, by go_num, by omega, by omega, by omega, HN, HBq⟩
                  · have hkI : ¬ (k : Int) < (nm : Int) := by omega
                    have hkg : (nm : Int) ≤ (k : Int) := by omega
                    have hkd : decide (nm ≤ k) = true := decide_eq_true (by omega)
                    have hid : decide (i2 < n + 1) = true := decide_eq_true hi2
                    have hok0 := CovL.inv_tok (by have h := HC2.out; rw [drop_filter hx2, if_pos (writ_size.2 hz)] at h; exact h) (fun u h => by rw [List.drop_of_length_le (by rw [← Hnm.out]; omega)] at h; cases h)
                    obtain ⟨hok, hcv⟩ := hok0
                    go_quiet (fail)
                    have HXY := Lib.hid (Hbx.out.below (below_drewN (Below.refl _ _) nq))
                    generalize wx.drewN nq = wy at *
                    obtain ⟨_, q0, q1, q2⟩ := (HVr.out.below HXY.out.b).cells hx2
                    have HBy := Lib.hid (HBr.out.trans (HXY.out.b.mono HBr.out.size))
                    have c0 := block_cell HXY.out.k 0
                    have c1 := block_cell HXY.out.k 1
                    have c2 := block_cell HXY.out.k 2
                    have f0 := block_free HXY.out.k 0
                    have f1 := block_free HXY.out.k 1
                    have f2 := block_free HXY.out.k 2
                    clear Hbx
                    go_wp2_with fail
                    clear c0 c1 c2 f0 f1 f2
                    have hbz := boxA_set3 wr wy _ _ _ _ (.int .i64 kx) (.string tx) (.int .i64 px) HXY.out.k HXY.out.b (Nat.le_refl _)
                    generalize ((wy.setCell ⟨wr.heap.size, 0, none⟩ (.int .i64 kx)).setCell ⟨wr.heap.size, 1, none⟩ (.string tx)).setCell ⟨wr.heap.size, 2, none⟩ (.int .i64 px) = wz at *
                    have HZ := Lib.hid hbz
                    have HBz := Lib.hid (HBr.out.trans (hbz.b.mono HBr.out.size))
                    clear hbz HXY HBy
                    clear q0 q1 q2
                    obtain ⟨hta, hts, hte, htg⟩ := hok
                    have hta : a ≤ px := hta
                    have hts : px + tx.size ≤ s.size := hts
                    have hte : s.extract px (px + tx.size) = tx := hte
                    have HLp := Lib.hid (fun w1 (h1 : Below wz.heap.size wz w1) => (by have e := (h1.cell (p := ⟨wr.heap.size, 2, none⟩) (lt_of_block HZ.out.k)).trans (block_cell HZ.out.k 2); simp [go_sem, e] : (loadVar 3 ⟨wr.heap.size, 2, none⟩).run Tryd.prog w1 = .ok (.int .i64 px) w1))
                    have HLt := Lib.hid (fun w1 (h1 : Below wz.heap.size wz w1) => (by have e := (h1.cell (p := ⟨wr.heap.size, 1, none⟩) (lt_of_block HZ.out.k)).trans (block_cell HZ.out.k 1); simp [go_sem, e] : (loadVar 9 ⟨wr.heap.size, 1, none⟩).run Tryd.prog w1 = .ok (.string tx) w1))
                    have HBL := Lib.hid (fun w1 (h1 : Below wz.heap.size wz w1) => (blank20 (s.extract a px) w1 (by rw [ByteArray.size_extract]; omega) (gap_ext htg hta (by show px ≤ s.size; omega))).mono (fun e w2 hh => (⟨hh.1, hh.2 ▸ h1⟩ : e = .returned (.bool true) ∧ Below wz.heap.size wz w2)))
                    have hneq := ext_neq _ hte
                    have HN := Lib.hid hcv
                    have d1 : decide ((px : Int) < (a : Int)) = false := decide_eq_false (by omega)
                    have d1n : decide (px < a) = false := decide_eq_false (by omega)
                    have d2 : decide ((s.size : Int) - (tx.size : Int) < (px : Int)) = false := decide_eq_false (by omega)
                    have hw1 : IntKind.i64.wrap ((s.size : Int) - (tx.size : Int)) = (s.size : Int) - (tx.size : Int) := by simp [IntKind.wrap, IntKind.bits, IntKind.signed]; omega
                    have hw2 : IntKind.i64.wrap ((px : Int) + (tx.size : Int)) = ((px + tx.size : Nat) : Int) := by simp [IntKind.wrap, IntKind.bits, IntKind.signed]; omega
                    refine wp_region_class (Below wz.heap.size wz) (by kernel_rfl) (by kernel_rfl) (Below.refl _ _).drew ?_
                    repeat (go_big_quiet_step (first | (intro _; rfl)))
                    refine wpQuiet_load_at (by simp [Region.wanted, yielded, Act.put]) 3 (.tmp 130) rfl ⟨wr.heap.size, 2, none⟩ rfl (.int .i64 px) HLp.out ?_
                    simp only [Act.put, List.setIfInBounds_toArray, List.set_cons_succ, List.set_cons_zero]
                    repeat (go_big_quiet_step (first | (intro _; rfl)))
                    refine wpQuiet_load_at (by simp [Region.wanted, yielded, Act.put]) 3 (.tmp 135) rfl ⟨wr.heap.size, 2, none⟩ rfl (.int .i64 px) HLp.out ?_
                    simp only [Act.put, List.setIfInBounds_toArray, List.set_cons_succ, List.set_cons_zero]
                    repeat (go_big_quiet_step (first | (intro _; rfl)))
                    refine wpQuiet_load_at (by simp [Region.wanted, yielded, Act.put]) 9 (.tmp 139) rfl ⟨wr.heap.size, 1, none⟩ rfl (.string tx) HLt.out ?_
                    simp only [Act.put, List.setIfInBounds_toArray, List.set_cons_succ, List.set_cons_zero]
                    repeat (go_big_quiet_step (first | (intro _; rfl)))
                    refine wpQuiet_load_at (by simp [Region.wanted, yielded, Act.put]) 3 (.tmp 147) rfl ⟨wr.heap.size, 2, none⟩ rfl (.int .i64 px) HLp.out ?_
                    simp only [Act.put, List.setIfInBounds_toArray, List.set_cons_succ, List.set_cons_zero]
                    repeat (go_big_quiet_step (first | (intro _; rfl)))
                    refine wpQuiet_load_at (by simp [Region.wanted, yielded, Act.put]) 3 (.tmp 149) rfl ⟨wr.heap.size, 2, none⟩ rfl (.int .i64 px) HLp.out ?_
                    simp only [Act.put, List.setIfInBounds_toArray, List.set_cons_succ, List.set_cons_zero]
                    repeat (go_big_quiet_step (first | (intro _; rfl)))
                    refine wpQuiet_load_at (by simp [Region.wanted, yielded, Act.put]) 9 (.tmp 151) rfl ⟨wr.heap.size, 1, none⟩ rfl (.string tx) HLt.out ?_
                    simp only [Act.put, List.setIfInBounds_toArray, List.set_cons_succ, List.set_cons_zero]
                    repeat (go_big_quiet_step (first | (intro _; rfl)))
                    refine wpQuiet_load_at (by simp [Region.wanted, yielded, Act.put]) 9 (.tmp 156) rfl ⟨wr.heap.size, 1, none⟩ rfl (.string tx) HLt.out ?_
                    simp only [Act.put, List.setIfInBounds_toArray, List.set_cons_succ, List.set_cons_zero]
                    repeat (go_big_quiet_step (first | (intro _; rfl)))
                    refine wpQuiet_load_at (by simp [Region.wanted, yielded, Act.put]) 3 (.tmp 163) rfl ⟨wr.heap.size, 2, none⟩ rfl (.int .i64 px) HLp.out ?_
                    simp only [Act.put, List.setIfInBounds_toArray, List.set_cons_succ, List.set_cons_zero]
                    repeat (go_big_quiet_step (first | (intro hh; with_reducible exact HBL.out _ hh) | (intro _; rfl)))
                    refine wpQuiet_nil ?_
                    intro wq hBq
                    have HZq := Lib.hid (HZ.out.below hBq)
                    have HBq := Lib.hid (HBz.out.trans (hBq.mono HBz.out.size))
                    have c1 := block_cell HZq.out.k 1
                    have c2 := block_cell HZq.out.k 2
                    clear hBq d1 d1n d2 hw1 hw2 hneq hte htg
                    go_wp2_with fail
                    go_roundg (gko - (i2 + 1 + k - (i + k)))
                    case measure => omega
                    case rel => exact ⟨i2 + 1, k, px + tx.size, by go_num, by go_num, by go_num, by omega, by omega, by omega, HN, HBq⟩
              · have hi2I : ¬ (i2 : Int) < (n : Int) + 1 := by omega
                obtain rfl : i2 = n + 1 := by omega
                have hid : decide (n + 1 < n + 1) = false := decide_eq_false (by omega)
                have Hbx := Lib.hid (boxA_made wr #[.int .i64 0, .string ⟨#[]⟩, .int .i64 s.size])
                go_wp2_with fail
                generalize wr.alloc (.cells #[.int .i64 0, .string ⟨#[]⟩, .int .i64 s.size] 31) = wx at *
                by_cases hk2 : k < nm
                · have hkI : (k : Int) < (nm : Int) := by omega
                  obtain ⟨⟨ku, xu, pu⟩, hu⟩ : ∃ t, M[k]? = some t := ⟨_, List.getElem?_eq_getElem (by have := Hnm.out; omega)⟩
                  obtain ⟨g2, o2, rfl⟩ := Hp2.out (by omega)
                  have hub := HT2.out _ (List.mem_of_getElem? hu)
                  have hpu : pu ≤ 4194304 := hub.2.2
                  have hxu : xu.size ≤ 4194304 := hub.2.1
                  clear hub
                  have hok0 := CovL.inv_note (by have h := HC2.out; rw [drop_cons hu] at h; exact h) (fun t h => by rw [List.drop_of_length_le (by rw [HLn.out]; omega)] at h; cases h)
                  obtain ⟨hok, hcv⟩ := hok0
                  go_quiet (fail)
                  have HXY := Lib.hid (Hbx.out.below (below_drewN (Below.refl _ _) nq))
                  generalize wx.drewN nq = wy at *
                  obtain ⟨_, q0, q1, q2⟩ := (HMr.out.below HXY.out.b).cells hu
                  have HBy := Lib.hid (HBr.out.trans (HXY.out.b.mono HBr.out.size))
                  have c0 := block_cell HXY.out.k 0
                  have c1 := block_cell HXY.out.k 1
                  have c2 := block_cell HXY.out.k 2
                  have f0 := block_free HXY.out.k 0
                  have f1 := block_free HXY.out.k 1
                  have f2 := block_free HXY.out.k 2
                  clear Hbx
                  go_wp2_with fail
                  clear c0 c1 c2 f0 f1 f2
                  have hbz := boxA_set3 wr wy _ _ _ _ (.int .i64 ku) (.string xu) (.int .i64 pu) HXY.out.k HXY.out.b (Nat.le_refl _)
                  generalize ((wy.setCell ⟨wr.heap.size, 0, none⟩ (.int .i64 ku)).setCell ⟨wr.heap.size, 1, none⟩ (.string xu)).setCell ⟨wr.heap.size, 2, none⟩ (.int .i64 pu) = wz at *
                  have HZ := Lib.hid hbz
                  have HBz := Lib.hid (HBr.out.trans (hbz.b.mono HBr.out.size))
                  clear hbz HXY HBy
                  clear q0 q1 q2
                  obtain ⟨hta, hts, hte, htg⟩ := hok
                  have hta : a ≤ pu := hta
                  have hts : pu + xu.size ≤ s.size := hts
                  have hte : s.extract pu (pu + xu.size) = xu := hte
                  have HLp := Lib.hid (fun w1 (h1 : Below wz.heap.size wz w1) => (by have e := (h1.cell (p := ⟨wr.heap.size, 2, none⟩) (lt_of_block HZ.out.k)).trans (block_cell HZ.out.k 2); simp [go_sem, e] : (loadVar 3 ⟨wr.heap.size, 2, none⟩).run Tryd.prog w1 = .ok (.int .i64 pu) w1))
                  have HLt := Lib.hid (fun w1 (h1 : Below wz.heap.size wz w1) => (by have e := (h1.cell (p := ⟨wr.heap.size, 1, none⟩) (lt_of_block HZ.out.k)).trans (block_cell HZ.out.k 1); simp [go_sem, e] : (loadVar 9 ⟨wr.heap.size, 1, none⟩).run Tryd.prog w1 = .ok (.string xu) w1))
                  have HBL := Lib.hid (fun w1 (h1 : Below wz.heap.size wz w1) => (blank20 (s.extract a pu) w1 (by rw [ByteArray.size_extract]; omega) (gap_ext htg hta (by show pu ≤ s.size; omega))).mono (fun e w2 hh => (⟨hh.1, hh.2 ▸ h1⟩ : e = .returned (.bool true) ∧ Below wz.heap.size wz w2)))
                  have hneq := ext_neq _ hte
                  have HN := Lib.hid hcv
                  have d1 : decide ((pu : Int) < (a : Int)) = false := decide_eq_false (by omega)
                  have d1n : decide (pu < a) = false := decide_eq_false (by omega)
                  have d2 : decide ((s.size : Int) - (xu.size : Int) < (pu : Int)) = false := decide_eq_false (by omega)
                  have hw1 : IntKind.i64.wrap ((s.size : Int) - (xu.size : Int)) = (s.size : Int) - (xu.size : Int) := by simp [IntKind.wrap, IntKind.bits, IntKind.signed]; omega
                  have hw2 : IntKind.i64.wrap ((pu : Int) + (xu.size : Int)) = ((pu + xu.size : Nat) : Int) := by simp [IntKind.wrap, IntKind.bits, IntKind.signed]; omega
                  refine wp_region_class (Below wz.heap.size wz) (by kernel_rfl) (by kernel_rfl) (Below.refl _ _).drew ?_
                  repeat (go_big_quiet_step (first | (intro _; rfl)))
                  refine wpQuiet_load_at (by simp [Region.wanted, yielded, Act.put]) 3 (.tmp 130) rfl ⟨wr.heap.size, 2, none⟩ rfl (.int .i64 pu) HLp.out ?_
                  simp only [Act.put, List.setIfInBounds_toArray, List.set_cons_succ, List.set_cons_zero]
                  repeat (go_big_quiet_step (first | (intro _; rfl)))
                  refine wpQuiet_load_at (by simp [Region.wanted, yielded, Act.put]) 3 (.tmp 135) rfl ⟨wr.heap.size, 2, none⟩ rfl (.int .i64 pu) HLp.out ?_
                  simp only [Act.put, List.setIfInBounds_toArray, List.set_cons_succ, List.set_cons_zero]
                  repeat (go_big_quiet_step (first | (intro _; rfl)))
                  refine wpQuiet_load_at (by simp [Region.wanted, yielded, Act.put]) 9 (.tmp 139) rfl ⟨wr.heap.size, 1, none⟩ rfl (.string xu) HLt.out ?_
                  simp only [Act.put, List.setIfInBounds_toArray, List.set_cons_succ, List.set_cons_zero]
                  repeat (go_big_quiet_step (first | (intro _; rfl)))
                  refine wpQuiet_load_at (by simp [Region.wanted, yielded, Act.put]) 3 (.tmp 147) rfl ⟨wr.heap.size, 2, none⟩ rfl (.int .i64 pu) HLp.out ?_
                  simp only [Act.put, List.setIfInBounds_toArray, List.set_cons_succ, List.set_cons_zero]
                  repeat (go_big_quiet_step (first | (intro _; rfl)))
                  refine wpQuiet_load_at (by simp [Region.wanted, yielded, Act.put]) 3 (.tmp 149) rfl ⟨wr.heap.size, 2, none⟩ rfl (.int .i64 pu) HLp.out ?_
                  simp only [Act.put, List.setIfInBounds_toArray, List.set_cons_succ, List.set_cons_zero]
                  repeat (go_big_quiet_step (first | (intro _; rfl)))
                  refine wpQuiet_load_at (by simp [Region.wanted, yielded, Act.put]) 9 (.tmp 151) rfl ⟨wr.heap.size, 1, none⟩ rfl (.string xu) HLt.out ?_
                  simp only [Act.put, List.setIfInBounds_toArray, List.set_cons_succ, List.set_cons_zero]
                  repeat (go_big_quiet_step (first | (intro _; rfl)))
                  refine wpQuiet_load_at (by simp [Region.wanted, yielded, Act.put]) 9 (.tmp 156) rfl ⟨wr.heap.size, 1, none⟩ rfl (.string xu) HLt.out ?_
                  simp only [Act.put, List.setIfInBounds_toArray, List.set_cons_succ, List.set_cons_zero]
                  repeat (go_big_quiet_step (first | (intro _; rfl)))
                  refine wpQuiet_load_at (by simp [Region.wanted, yielded, Act.put]) 3 (.tmp 163) rfl ⟨wr.heap.size, 2, none⟩ rfl (.int .i64 pu) HLp.out ?_
                  simp only [Act.put, List.setIfInBounds_toArray, List.set_cons_succ, List.set_cons_zero]
                  repeat (go_big_quiet_step (first | (intro hh; with_reducible exact HBL.out _ hh) | (intro _; rfl)))
                  refine wpQuiet_nil ?_
                  intro wq hBq
                  have HZq := Lib.hid (HZ.out.below hBq)
                  have HBq := Lib.hid (HBz.out.trans (hBq.mono HBz.out.size))
                  have c1 := block_cell HZq.out.k 1
                  have c2 := block_cell HZq.out.k 2
                  clear hBq d1 d1n d2 hw1 hw2 hneq hte htg
                  go_wp2_with fail
                  go_roundg (gko - (n + 1 + (k + 1) - (i + k)))
                  case measure => omega
                  case rel => exact ⟨n + 1, k + 1, pu + xu.size, by go_num, by go_num, by go_num, by omega, by omega, by omega, HN, HBq⟩
                · have hkI : ¬ (k : Int) < (nm : Int) := by omega
                  obtain rfl : k = nm := by omega
                  obtain rfl : a = F := HC2.out.inv_nil (by rw [List.drop_of_length_le (by rw [HLn.out]; omega)]; rfl) (by rw [List.drop_of_length_le (by rw [← Hnm.out]; omega)])
                  go_quiet (fail)
                  have HBy := Lib.hid (HBr.out.trans ((below_drewN Hbx.out.b nq).mono HBr.out.size))
                  clear Hbx
                  generalize wx.drewN nq = wy at *
                  have hstop : (a : Int) ≤ (pt : Int) := by omega
                  obtain ⟨_, e0, e1, e2⟩ := (HV5.out.below HBy.out).cells Hx.out
                  clear e1 e2
                  go_wp2_with fail
                  go_ret
                  exact ⟨rfl, HB5.out.trans (HBy.out.mono HB5.out.size)⟩
          · have hiI : ¬ ((n : Int) + 1) < (n : Int) + 1 := by omega
            have hkI : (k : Int) < (nm : Int) := by omega
            have hi : n + 1 ≤ n + 1 := Nat.le_refl _
            go_wp2_with fail
            clear hiI hkI
            go_loopg [9] (n + 1 - (n + 1)) (fun g2 iv2 wr2 => ∃ i2 : Nat, n + 1 ≤ i2 ∧ i2 + g2 = n + 1 ∧ iv2 = .int .i64 i2 ∧ Hid (CovL s a ((L.drop i2).filter writ) (M.drop k) F) ∧ wr2 = wo)
            case atStart => exact ⟨n + 1, Nat.le_refl _, by omega, by go_num, HC, rfl⟩
            case round =>
              obtain ⟨i2, hii, hig2, rfl, HC2, rfl⟩ := hrel
              by_cases hi2 : i2 < n + 1
              · exact absurd hi2 (by omega)
              · have hi2I : ¬ (i2 : Int) < (n : Int) + 1 := by omega
                obtain rfl : i2 = n + 1 := by omega
                have hid : decide (n + 1 < n + 1) = false := decide_eq_false (by omega)
                have Hbx := Lib.hid (boxA_made wr #[.int .i64 0, .string ⟨#[]⟩, .int .i64 s.size])
                go_wp2_with fail
                generalize wr.alloc (.cells #[.int .i64 0, .string ⟨#[]⟩, .int .i64 s.size] 31) = wx at *
                by_cases hk2 : k < nm
                · have hkI : (k : Int) < (nm : Int) := by omega
                  obtain ⟨⟨ku, xu, pu⟩, hu⟩ : ∃ t, M[k]? = some t := ⟨_, List.getElem?_eq_getElem (by have := Hnm.out; omega)⟩
                  obtain ⟨g2, o2, rfl⟩ := Hp2.out (by omega)
                  have hub := HT2.out _ (List.mem_of_getElem? hu)
                  have hpu : pu ≤ 4194304 := hub.2.2
                  have hxu : xu.size ≤ 4194304 := hub.2.1
                  clear hub
                  have hok0 := CovL.inv_note (by have h := HC2.out; rw [drop_cons hu] at h; exact h) (fun t h => by rw [List.drop_of_length_le (by rw [HLn.out]; omega)] at h; cases h)
                  obtain ⟨hok, hcv⟩ := hok0
                  go_quiet (fail)
                  have HXY := Lib.hid (Hbx.out.below (below_drewN (Below.refl _ _) nq))
                  generalize wx.drewN nq = wy at *
                  obtain ⟨_, q0, q1, q2⟩ := (HMr.out.below HXY.out.b).cells hu
                  have HBy := Lib.hid (HBr.out.trans (HXY.out.b.mono HBr.out.size))
                  have c0 := block_cell HXY.out.k 0
                  have c1 := block_cell HXY.out.k 1
                  have c2 := block_cell HXY.out.k 2
                  have f0 := block_free HXY.out.k 0
                  have f1 := block_free HXY.out.k 1
                  have f2 := block_free HXY.out.k 2
                  clear Hbx
                  go_wp2_with fail
                  clear c0 c1 c2 f0 f1 f2
                  have hbz := boxA_set3 wr wy _ _ _ _ (.int .i64 ku) (.string xu) (.int .i64 pu) HXY.out.k HXY.out.b (Nat.le_refl _)
                  generalize ((wy.setCell ⟨wr.heap.size, 0, none⟩ (.int .i64 ku)).setCell ⟨wr.heap.size, 1, none⟩ (.string xu)).setCell ⟨wr.heap.size, 2, none⟩ (.int .i64 pu) = wz at *
                  have HZ := Lib.hid hbz
                  have HBz := Lib.hid (HBr.out.trans (hbz.b.mono HBr.out.size))
                  clear hbz HXY HBy
                  clear q0 q1 q2
                  obtain ⟨hta, hts, hte, htg⟩ := hok
                  have hta : a ≤ pu := hta
                  have hts : pu + xu.size ≤ s.size := hts
                  have hte : s.extract pu (pu + xu.size) = xu := hte
                  have HLp := Lib.hid (fun w1 (h1 : Below wz.heap.size wz w1) => (by have e := (h1.cell (p := ⟨wr.heap.size, 2, none⟩) (lt_of_block HZ.out.k)).trans (block_cell HZ.out.k 2); simp [go_sem, e] : (loadVar 3 ⟨wr.heap.size, 2, none⟩).run Tryd.prog w1 = .ok (.int .i64 pu) w1))
                  have HLt := Lib.hid (fun w1 (h1 : Below wz.heap.size wz w1) => (by have e := (h1.cell (p := ⟨wr.heap.size, 1, none⟩) (lt_of_block HZ.out.k)).trans (block_cell HZ.out.k 1); simp [go_sem, e] : (loadVar 9 ⟨wr.heap.size, 1, none⟩).run Tryd.prog w1 = .ok (.string xu) w1))
                  have HBL := Lib.hid (fun w1 (h1 : Below wz.heap.size wz w1) => (blank20 (s.extract a pu) w1 (by rw [ByteArray.size_extract]; omega) (gap_ext htg hta (by show pu ≤ s.size; omega))).mono (fun e w2 hh => (⟨hh.1, hh.2 ▸ h1⟩ : e = .returned (.bool true) ∧ Below wz.heap.size wz w2)))
                  have hneq := ext_neq _ hte
                  have HN := Lib.hid hcv
                  have d1 : decide ((pu : Int) < (a : Int)) = false := decide_eq_false (by omega)
                  have d1n : decide (pu < a) = false := decide_eq_false (by omega)
                  have d2 : decide ((s.size : Int) - (xu.size : Int) < (pu : Int)) = false := decide_eq_false (by omega)
                  have hw1 : IntKind.i64.wrap ((s.size : Int) - (xu.size : Int)) = (s.size : Int) - (xu.size : Int) := by simp [IntKind.wrap, IntKind.bits, IntKind.signed]; omega
                  have hw2 : IntKind.i64.wrap ((pu : Int) + (xu.size : Int)) = ((pu + xu.size : Nat) : Int) := by simp [IntKind.wrap, IntKind.bits, IntKind.signed]; omega
                  refine wp_region_class (Below wz.heap.size wz) (by kernel_rfl) (by kernel_rfl) (Below.refl _ _).drew ?_
                  repeat (go_big_quiet_step (first | (intro _; rfl)))
                  refine wpQuiet_load_at (by simp [Region.wanted, yielded, Act.put]) 3 (.tmp 130) rfl ⟨wr.heap.size, 2, none⟩ rfl (.int .i64 pu) HLp.out ?_
                  simp only [Act.put, List.setIfInBounds_toArray, List.set_cons_succ, List.set_cons_zero]
                  repeat (go_big_quiet_step (first | (intro _; rfl)))
                  refine wpQuiet_load_at (by simp [Region.wanted, yielded, Act.put]) 3 (.tmp 135) rfl ⟨wr.heap.size, 2, none⟩ rfl (.int .i64 pu) HLp.out ?_
                  simp only [Act.put, List.setIfInBounds_toArray, List.set_cons_succ, List.set_cons_zero]
                  repeat (go_big_quiet_step (first | (intro _; rfl)))
                  refine wpQuiet_load_at (by simp [Region.wanted, yielded, Act.put]) 9 (.tmp 139) rfl ⟨wr.heap.size, 1, none⟩ rfl (.string xu) HLt.out ?_
                  simp only [Act.put, List.setIfInBounds_toArray, List.set_cons_succ, List.set_cons_zero]
                  repeat (go_big_quiet_step (first | (intro _; rfl)))
                  refine wpQuiet_load_at (by simp [Region.wanted, yielded, Act.put]) 3 (.tmp 147) rfl ⟨wr.heap.size, 2, none⟩ rfl (.int .i64 pu) HLp.out ?_
                  simp only [Act.put, List.setIfInBounds_toArray, List.set_cons_succ, List.set_cons_zero]
                  repeat (go_big_quiet_step (first | (intro _; rfl)))
                  refine wpQuiet_load_at (by simp [Region.wanted, yielded, Act.put]) 3 (.tmp 149) rfl ⟨wr.heap.size, 2, none⟩ rfl (.int .i64 pu) HLp.out ?_
                  simp only [Act.put, List.setIfInBounds_toArray, List.set_cons_succ, List.set_cons_zero]
                  repeat (go_big_quiet_step (first | (intro _; rfl)))
                  refine wpQuiet_load_at (by simp [Region.wanted, yielded, Act.put]) 9 (.tmp 151) rfl ⟨wr.heap.size, 1, none⟩ rfl (.string xu) HLt.out ?_
                  simp only [Act.put, List.setIfInBounds_toArray, List.set_cons_succ, List.set_cons_zero]
                  repeat (go_big_quiet_step (first | (intro _; rfl)))
                  refine wpQuiet_load_at (by simp [Region.wanted, yielded, Act.put]) 9 (.tmp 156) rfl ⟨wr.heap.size, 1, none⟩ rfl (.string xu) HLt.out ?_
                  simp only [Act.put, List.setIfInBounds_toArray, List.set_cons_succ, List.set_cons_zero]
                  repeat (go_big_quiet_step (first | (intro _; rfl)))
                  refine wpQuiet_load_at (by simp [Region.wanted, yielded, Act.put]) 3 (.tmp 163) rfl ⟨wr.heap.size, 2, none⟩ rfl (.int .i64 pu) HLp.out ?_
                  simp only [Act.put, List.setIfInBounds_toArray, List.set_cons_succ, List.set_cons_zero]
                  repeat (go_big_quiet_step (first | (intro hh; with_reducible exact HBL.out _ hh) | (intro _; rfl)))
                  refine wpQuiet_nil ?_
                  intro wq hBq
                  have HZq := Lib.hid (HZ.out.below hBq)
                  have HBq := Lib.hid (HBz.out.trans (hBq.mono HBz.out.size))
                  have c1 := block_cell HZq.out.k 1
                  have c2 := block_cell HZq.out.k 2
                  clear hBq d1 d1n d2 hw1 hw2 hneq hte htg
                  go_wp2_with fail
                  go_roundg (gko - (n + 1 + (k + 1) - ((n + 1) + k)))
                  case measure => omega
                  case rel => exact ⟨n + 1, k + 1, pu + xu.size, by go_num, by go_num, by go_num, by omega, by omega, by omega, HN, HBq⟩
                · exact absurd hk2o hk2
  · have hE := HEnd.out.2 rfl
    have hF : F ≤ s.size := hE.2.1
    have HGap := Lib.hid hE.2.2
    have hps : ((pt : Int) == (s.size : Int)) = true := beq_iff_eq.2 (by have := hE.1; omega)
    have hpsn : ((pt : Int) != (s.size : Int)) = false := by rw [bne, hps]; rfl
    clear hE
    have Hbm : Hid (BoxA w3 w3.heap.size #[.int .i64 0, .string ⟨#[]⟩, .int .i64 pt] (w3.alloc (.cells #[.int .i64 0, .string ⟨#[]⟩, .int .i64 pt] 31))) := Hbm
    go_wp2_with fail
    generalize w3.alloc (.cells #[.int .i64 0, .string ⟨#[]⟩, .int .i64 pt] 31) = w5 at *
    have HB5 := Lib.hid (HB.out.trans (Hbm.out.b.mono HB.out.size))
    have HV5 := Lib.hid (HV1.out.below Hbm.out.b)
    have HM5 := Lib.hid (HV2.out.below Hbm.out.b)
    clear Hbm e0 e1 e2
    go_loopg [5, 9, 10] (n + 1 + nm) (fun g av iv kv wr => ∃ (i k a : Nat), av = .int .i64 a ∧ iv = .int .i64 i ∧ kv = .int .i64 k ∧ i ≤ n + 1 ∧ k ≤ nm ∧ i + k + g = n + 1 + nm ∧ Hid (CovL s a ((L.drop i).filter writ) (M.drop k) F) ∧ Hid (Below w5.heap.size w5 wr))
    case atStart => exact ⟨0, 0, sk, rfl, rfl, rfl, Nat.zero_le _, Nat.zero_le _, by omega, by rw [List.drop_zero, List.drop_zero]; exact Hcov, Lib.hid (Below.refl _ _)⟩
    case round =>
      obtain ⟨i, k, a, rfl, rfl, rfl, hin, hkn, hig, HC, HBr⟩ := hrel
      have haF := HC.out.le
      have HVr := Lib.hid (HV5.out.below HBr.out)
      have HMr := Lib.hid (HM5.out.below HBr.out)
      have hab : a ≤ 1048576 := by omega
      by_cases hdone : i = n + 1 ∧ k = nm
      · obtain ⟨rfl, rfl⟩ := hdone
        have hd1 : ¬ ((n : Int) + 1) < (n : Int) + 1 := by omega
        have hd2 : ¬ (k : Int) < (k : Int) := by omega
        obtain rfl : a = F := HC.out.inv_nil (by rw [List.drop_of_length_le (by rw [HLn.out]; omega)]; rfl) (by rw [List.drop_of_length_le (by rw [← Hnm.out]; omega)])
        have hstop : (a : Int) ≤ (s.size : Int) := by omega
        obtain ⟨_, e0, e1, e2⟩ := (HV5.out.below HBr.out).cells Hx.out
        clear e1 e2
        have HBL := Lib.hid (fun w1 => blank20 (s.extract a s.size) w1 (by rw [ByteArray.size_extract]; omega) (gap_ext HGap.out (by omega) (Nat.le_refl _)))
        have haI : (a : Int) ≤ (s.size : Int) := by omega
        go_wp2_with fail
        refine (HBL.out _).mono ?_
        rintro r w1 ⟨rfl, rfl⟩
        go_wp2_with fail
        go_ret
        exact ⟨rfl, HB5.out.trans (HBr.out.mono HB5.out.size)⟩
      have HLEN := Lib.hid HLn.out
      have hcs : i < n + 1 ∨ (i = n + 1 ∧ k < nm) := by omega
      obtain ⟨gko, rfl⟩ : ∃ g, g = gk := ⟨gk, rfl⟩
      obtain ⟨wo, rfl⟩ : ∃ x, x = wr := ⟨wr, rfl⟩
      clear hdone
      rcases hcs with hi | ⟨rfl, hk2o⟩
      · have hiI : (i : Int) < (n : Int) + 1 := by omega
        go_wp2_with fail
        clear hiI
        go_loopg [9] (n + 1 - (i)) (fun g2 iv2 wr2 => ∃ i2 : Nat, i ≤ i2 ∧ i2 + g2 = n + 1 ∧ iv2 = .int .i64 i2 ∧ Hid (CovL s a ((L.drop i2).filter writ) (M.drop k) F) ∧ wr2 = wo)
        case atStart => exact ⟨i, Nat.le_refl _, by omega, by go_num, HC, rfl⟩
        case round =>
          obtain ⟨i2, hii, hig2, rfl, HC2, rfl⟩ := hrel
          by_cases hi2 : i2 < n + 1
          · have hi2I : (i2 : Int) < (n : Int) + 1 := by omega
            obtain ⟨⟨kx, tx, px⟩, hx2⟩ : ∃ u, L[i2]? = some u := ⟨_, List.getElem?_eq_getElem (by have := HLn.out; omega)⟩
            have hxb := HT1.out _ (List.mem_of_getElem? hx2)
            obtain ⟨_, q0, q1, q2⟩ := HVr.out.cells hx2
            have hee := isEmpty_eq tx
            by_cases hz : tx.size = 0
            · rw [decide_eq_true hz] at hee
              have HN2 := Lib.hid (show CovL s a ((L.drop (i2 + 1)).filter writ) (M.drop k) F from by
                have h := HC2.out
                rw [drop_filter hx2, if_neg (fun h => writ_size.1 h hz)] at h
                exact h)
              have hpx : px ≤ 4194304 := hxb.2.2
              have htx : tx.size ≤ 4194304 := hxb.2.1
              clear hz hxb hx2
              go_wp2_with fail
              go_roundg (gk - 1)
              case measure => omega
              case rel => exact ⟨i2 + 1, by omega, by omega, by go_num, HN2, rfl⟩
            · rw [decide_eq_false hz] at hee
              have Hbx := Lib.hid (boxA_made wr #[.int .i64 0, .string ⟨#[]⟩, .int .i64 s.size])
              have hpx : px ≤ 4194304 := hxb.2.2
              have htx : tx.size ≤ 4194304 := hxb.2.1
              clear hxb
              go_wp2_with fail
              generalize wr.alloc (.cells #[.int .i64 0, .string ⟨#[]⟩, .int .i64 s.size] 31) = wx at *
              by_cases hk2 : k < nm
              · have hkI : (k : Int) < (nm : Int) := by omega
                have hkg : ¬ (nm : Int) ≤ (k : Int) := by omega
                have hkd : decide (nm ≤ k) = false := decide_eq_false (by omega)
                have hkd2 : decide ((nm : Int) ≤ (k : Int)) = false := decide_eq_false (by omega)
                have hid : decide (i2 < n + 1) = true := decide_eq_true hi2
                obtain ⟨⟨ku, xu, pu⟩, hu⟩ : ∃ t, M[k]? = some t := ⟨_, List.getElem?_eq_getElem (by have := Hnm.out; omega)⟩
                obtain ⟨g2, o2, rfl⟩ := Hp2.out (by omega)
                have hub := HT2.out _ (List.mem_of_getElem? hu)
                have hpu : pu ≤ 4194304 := hub.2.2
                have hxu : xu.size ≤ 4194304 := hub.2.1
                clear hub
                obtain ⟨_, q0, q1, q2⟩ := (HVr.out.below Hbx.out.b).cells hx2
                obtain ⟨_, r0, r1, r2⟩ := (HMr.out.below Hbx.out.b).cells hu
                by_cases hpp : px < pu
                · have hppI : (px : Int) < (pu : Int) := by omega
                  have hppd : decide (px < pu) = true := decide_eq_true hpp
                  have hok0 := CovL.inv_tok (by have h := HC2.out; rw [drop_filter hx2, if_pos (writ_size.2 hz)] at h; exact h) (fun u h => by rw [drop_cons hu] at h; injection h with h; rw [← h]; exact hpp)
                  obtain ⟨hok, hcv⟩ := hok0
                  go_quiet (fail)
                  clear q0 q1 q2 r0 r1 r2
                  have HXY := Lib.hid (Hbx.out.below (below_drewN (Below.refl _ _) nq))
                  generalize wx.drewN nq = wy at *
                  obtain ⟨_, q0, q1, q2⟩ := (HVr.out.below HXY.out.b).cells hx2
                  have HBy := Lib.hid (HBr.out.trans (HXY.out.b.mono HBr.out.size))
                  have c0 := block_cell HXY.out.k 0
                  have c1 := block_cell HXY.out.k 1
                  have c2 := block_cell HXY.out.k 2
                  have f0 := block_free HXY.out.k 0
                  have f1 := block_free HXY.out.k 1
                  have f2 := block_free HXY.out.k 2
                  clear Hbx
                  go_wp2_with fail
                  clear c0 c1 c2 f0 f1 f2
                  have hbz := boxA_set3 wr wy _ _ _ _ (.int .i64 kx) (.string tx) (.int .i64 px) HXY.out.k HXY.out.b (Nat.le_refl _)
                  generalize ((wy.setCell ⟨wr.heap.size, 0, none⟩ (.int .i64 kx)).setCell ⟨wr.heap.size, 1, none⟩ (.string tx)).setCell ⟨wr.heap.size, 2, none⟩ (.int .i64 px) = wz at *
                  have HZ := Lib.hid hbz
                  have HBz := Lib.hid (HBr.out.trans (hbz.b.mono HBr.out.size))
                  clear hbz HXY HBy
                  clear q0 q1 q2
                  obtain ⟨hta, hts, hte, htg⟩ := hok
                  have hta : a ≤ px := hta
                  have hts : px + tx.size ≤ s.size := hts
                  have hte : s.extract px (px + tx.size) = tx := hte
                  have HLp := Lib.hid (fun w1 (h1 : Below wz.heap.size wz w1) => (by have e := (h1.cell (p := ⟨wr.heap.size, 2, none⟩) (lt_of_block HZ.out.k)).trans (block_cell HZ.out.k 2); simp [go_sem, e] : (loadVar 3 ⟨wr.heap.size, 2, none⟩).run Tryd.prog w1 = .ok (.int .i64 px) w1))
                  have HLt := Lib.hid (fun w1 (h1 : Below wz.heap.size wz w1) => (by have e := (h1.cell (p := ⟨wr.heap.size, 1, none⟩) (lt_of_block HZ.out.k)).trans (block_cell HZ.out.k 1); simp [go_sem, e] : (loadVar 9 ⟨wr.heap.size, 1, none⟩).run Tryd.prog w1 = .ok (.string tx) w1))
                  have HBL := Lib.hid (fun w1 (h1 : Below wz.heap.size wz w1) => (blank20 (s.extract a px) w1 (by rw [ByteArray.size_extract]; omega) (gap_ext htg hta (by show px ≤ s.size; omega))).mono (fun e w2 hh => (⟨hh.1, hh.2 ▸ h1⟩ : e = .returned (.bool true) ∧ Below wz.heap.size wz w2)))
                  have hneq := ext_neq _ hte
                  have HN := Lib.hid hcv
                  have d1 : decide ((px : Int) < (a : Int)) = false := decide_eq_false (by omega)
                  have d1n : decide (px < a) = false := decide_eq_false (by omega)
                  have d2 : decide ((s.size : Int) - (tx.size : Int) < (px : Int)) = false := decide_eq_false (by omega)
                  have hw1 : IntKind.i64.wrap ((s.size : Int) - (tx.size : Int)) = (s.size : Int) - (tx.size : Int) := by simp [IntKind.wrap, IntKind.bits, IntKind.signed]; omega
                  have hw2 : IntKind.i64.wrap ((px : Int) + (tx.size : Int)) = ((px + tx.size : Nat) : Int) := by simp [IntKind.wrap, IntKind.bits, IntKind.signed]; omega
                  refine wp_region_class (Below wz.heap.size wz) (by kernel_rfl) (by kernel_rfl) (Below.refl _ _).drew ?_
                  repeat (go_big_quiet_step (first | (intro _; rfl)))
                  refine wpQuiet_load_at (by simp [Region.wanted, yielded, Act.put]) 3 (.tmp 130) rfl ⟨wr.heap.size, 2, none⟩ rfl (.int .i64 px) HLp.out ?_
                  simp only [Act.put, List.setIfInBounds_toArray, List.set_cons_succ, List.set_cons_zero]
                  repeat (go_big_quiet_step (first | (intro _; rfl)))
                  refine wpQuiet_load_at (by simp [Region.wanted, yielded, Act.put]) 3 (.tmp 135) rfl ⟨wr.heap.size, 2, none⟩ rfl (.int .i64 px) HLp.out ?_
                  simp only [Act.put, List.setIfInBounds_toArray, List.set_cons_succ, List.set_cons_zero]
                  repeat (go_big_quiet_step (first | (intro _; rfl)))
                  refine wpQuiet_load_at (by simp [Region.wanted, yielded, Act.put]) 9 (.tmp 139) rfl ⟨wr.heap.size, 1, none⟩ rfl (.string tx) HLt.out ?_
                  simp only [Act.put, List.setIfInBounds_toArray, List.set_cons_succ, List.set_cons_zero]
                  repeat (go_big_quiet_step (first | (intro _; rfl)))
                  refine wpQuiet_load_at (by simp [Region.wanted, yielded, Act.put]) 3 (.tmp 147) rfl ⟨wr.heap.size, 2, none⟩ rfl (.int .i64 px) HLp.out ?_
                  simp only [Act.put, List.setIfInBounds_toArray, List.set_cons_succ, List.set_cons_zero]
                  repeat (go_big_quiet_step (first | (intro _; rfl)))
                  refine wpQuiet_load_at (by simp [Region.wanted, yielded, Act.put]) 3 (.tmp 149) rfl ⟨wr.heap.size, 2, none⟩ rfl (.int .i64 px) HLp.out ?_
                  simp only [Act.put, List.setIfInBounds_toArray, List.set_cons_succ, List.set_cons_zero]
                  repeat (go_big_quiet_step (first | (intro _; rfl)))
                  refine wpQuiet_load_at (by simp [Region.wanted, yielded, Act.put]) 9 (.tmp 151) rfl ⟨wr.heap.size, 1, none⟩ rfl (.string tx) HLt.out ?_
                  simp only [Act.put, List.setIfInBounds_toArray, List.set_cons_succ, List.set_cons_zero]
                  repeat (go_big_quiet_step (first | (intro _; rfl)))
                  refine wpQuiet_load_at (by simp [Region.wanted, yielded, Act.put]) 9 (.tmp 156) rfl ⟨wr.heap.size, 1, none⟩ rfl (.string tx) HLt.out ?_
                  simp only [Act.put, List.setIfInBounds_toArray, List.set_cons_succ, List.set_cons_zero]
                  repeat (go_big_quiet_step (first | (intro _; rfl)))
                  refine wpQuiet_load_at (by simp [Region.wanted, yielded, Act.put]) 3 (.tmp 163) rfl ⟨wr.heap.size, 2, none⟩ rfl (.int .i64 px) HLp.out ?_
                  simp only [Act.put, List.setIfInBounds_toArray, List.set_cons_succ, List.set_cons_zero]
                  repeat (go_big_quiet_step (first | (intro hh; with_reducible exact HBL.out _ hh) | (intro _; rfl)))
                  refine wpQuiet_nil ?_
                  intro wq hBq
                  have HZq := Lib.hid (HZ.out.below hBq)
                  have HBq := Lib.hid (HBz.out.trans (hBq.mono HBz.out.size))
                  have c1 := block_cell HZq.out.k 1
                  have c2 := block_cell HZq.out.k 2
                  clear hBq d1 d1n d2 hw1 hw2 hneq hte htg
                  go_wp2_with fail
                  go_roundg (gko - (i2 + 1 + k - (i + k)))
                  case measure => omega
                  case rel => exact ⟨i2 + 1, k, px + tx.size, by go_num, by go_num, by go_num, by omega, by omega, by omega, HN, HBq⟩
                · have hppI : ¬ (px : Int) < (pu : Int) := by omega
                  have hppd : decide (px < pu) = false := decide_eq_false hpp
                  have hok0 := CovL.inv_note (by have h := HC2.out; rw [drop_cons hu] at h; exact h) (fun t h => by rw [drop_filter hx2, if_pos (writ_size.2 hz)] at h; injection h with h; rw [← h]; exact hpp)
                  obtain ⟨hok, hcv⟩ := hok0
                  go_quiet (fail)
                  clear q0 q1 q2 r0 r1 r2
                  have HXY := Lib.hid (Hbx.out.below (below_drewN (Below.refl _ _) nq))
                  generalize wx.drewN nq = wy at *
                  obtain ⟨_, q0, q1, q2⟩ := (HMr.out.below HXY.out.b).cells hu
                  have HBy := Lib.hid (HBr.out.trans (HXY.out.b.mono HBr.out.size))
                  have c0 := block_cell HXY.out.k 0
                  have c1 := block_cell HXY.out.k 1
                  have c2 := block_cell HXY.out.k 2
                  have f0 := block_free HXY.out.k 0
                  have f1 := block_free HXY.out.k 1
                  have f2 := block_free HXY.out.k 2
                  clear Hbx
                  go_wp2_with fail
                  clear c0 c1 c2 f0 f1 f2
                  have hbz := boxA_set3 wr wy _ _ _ _ (.int .i64 ku) (.string xu) (.int .i64 pu) HXY.out.k HXY.out.b (Nat.le_refl _)
                  generalize ((wy.setCell ⟨wr.heap.size, 0, none⟩ (.int .i64 ku)).setCell ⟨wr.heap.size, 1, none⟩ (.string xu)).setCell ⟨wr.heap.size, 2, none⟩ (.int .i64 pu) = wz at *
                  have HZ := Lib.hid hbz
                  have HBz := Lib.hid (HBr.out.trans (hbz.b.mono HBr.out.size))
                  clear hbz HXY HBy
                  clear q0 q1 q2
                  obtain ⟨hta, hts, hte, htg⟩ := hok
                  have hta : a ≤ pu := hta
                  have hts : pu + xu.size ≤ s.size := hts
                  have hte : s.extract pu (pu + xu.size) = xu := hte
                  have HLp := Lib.hid (fun w1 (h1 : Below wz.heap.size wz w1) => (by have e := (h1.cell (p := ⟨wr.heap.size, 2, none⟩) (lt_of_block HZ.out.k)).trans (block_cell HZ.out.k 2); simp [go_sem, e] : (loadVar 3 ⟨wr.heap.size, 2, none⟩).run Tryd.prog w1 = .ok (.int .i64 pu) w1))
                  have HLt := Lib.hid (fun w1 (h1 : Below wz.heap.size wz w1) => (by have e := (h1.cell (p := ⟨wr.heap.size, 1, none⟩) (lt_of_block HZ.out.k)).trans (block_cell HZ.out.k 1); simp [go_sem, e] : (loadVar 9 ⟨wr.heap.size, 1, none⟩).run Tryd.prog w1 = .ok (.string xu) w1))
                  have HBL := Lib.hid (fun w1 (h1 : Below wz.heap.size wz w1) => (blank20 (s.extract a pu) w1 (by rw [ByteArray.size_extract]; omega) (gap_ext htg hta (by show pu ≤ s.size; omega))).mono (fun e w2 hh => (⟨hh.1, hh.2 ▸ h1⟩ : e = .returned (.bool true) ∧ Below wz.heap.size wz w2)))
                  have hneq := ext_neq _ hte
                  have HN := Lib.hid hcv
                  have d1 : decide ((pu : Int) < (a : Int)) = false := decide_eq_false (by omega)
                  have d1n : decide (pu < a) = false := decide_eq_false (by omega)
                  have d2 : decide ((s.size : Int) - (xu.size : Int) < (pu : Int)) = false := decide_eq_false (by omega)
                  have hw1 : IntKind.i64.wrap ((s.size : Int) - (xu.size : Int)) = (s.size : Int) - (xu.size : Int) := by simp [IntKind.wrap, IntKind.bits, IntKind.signed]; omega
                  have hw2 : IntKind.i64.wrap ((pu : Int) + (xu.size : Int)) = ((pu + xu.size : Nat) : Int) := by simp [IntKind.wrap, IntKind.bits, IntKind.signed]; omega
                  refine wp_region_class (Below wz.heap.size wz) (by kernel_rfl) (by kernel_rfl) (Below.refl _ _).drew ?_
                  repeat (go_big_quiet_step (first | (intro _; rfl)))
                  refine wpQuiet_load_at (by simp [Region.wanted, yielded, Act.put]) 3 (.tmp 130) rfl ⟨wr.heap.size, 2, none⟩ rfl (.int .i64 pu) HLp.out ?_
                  simp only [Act.put, List.setIfInBounds_toArray, List.set_cons_succ, List.set_cons_zero]
                  repeat (go_big_quiet_step (first | (intro _; rfl)))
                  refine wpQuiet_load_at (by simp [Region.wanted, yielded, Act.put]) 3 (.tmp 135) rfl ⟨wr.heap.size, 2, none⟩ rfl (.int .i64 pu) HLp.out ?_
                  simp only [Act.put, List.setIfInBounds_toArray, List.set_cons_succ, List.set_cons_zero]
                  repeat (go_big_quiet_step (first | (intro _; rfl)))
                  refine wpQuiet_load_at (by simp [Region.wanted, yielded, Act.put]) 9 (.tmp 139) rfl ⟨wr.heap.size, 1, none⟩ rfl (.string xu) HLt.out ?_
                  simp only [Act.put, List.setIfInBounds_toArray, List.set_cons_succ, List.set_cons_zero]
                  repeat (go_big_quiet_step (first | (intro _; rfl)))
                  refine wpQuiet_load_at (by simp [Region.wanted, yielded, Act.put]) 3 (.tmp 147) rfl ⟨wr.heap.size, 2, none⟩ rfl (.int .i64 pu) HLp.out ?_
                  simp only [Act.put, List.setIfInBounds_toArray, List.set_cons_succ, List.set_cons_zero]
                  repeat (go_big_quiet_step (first | (intro _; rfl)))
                  refine wpQuiet_load_at (by simp [Region.wanted, yielded, Act.put]) 3 (.tmp 149) rfl ⟨wr.heap.size, 2, none⟩ rfl (.int .i64 pu) HLp.out ?_
                  simp only [Act.put, List.setIfInBounds_toArray, List.set_cons_succ, List.set_cons_zero]
                  repeat (go_big_quiet_step (first | (intro _; rfl)))
                  refine wpQuiet_load_at (by simp [Region.wanted, yielded, Act.put]) 9 (.tmp 151) rfl ⟨wr.heap.size, 1, none⟩ rfl (.string xu) HLt.out ?_
                  simp only [Act.put, List.setIfInBounds_toArray, List.set_cons_succ, List.set_cons_zero]
                  repeat (go_big_quiet_step (first | (intro _; rfl)))
                  refine wpQuiet_load_at (by simp [Region.wanted, yielded, Act.put]) 9 (.tmp 156) rfl ⟨wr.heap.size, 1, none⟩ rfl (.string xu) HLt.out ?_
                  simp only [Act.put, List.setIfInBounds_toArray, List.set_cons_succ, List.set_cons_zero]
                  repeat (go_big_quiet_step (first | (intro _; rfl)))
                  refine wpQuiet_load_at (by simp [Region.wanted, yielded, Act.put]) 3 (.tmp 163) rfl ⟨wr.heap.size, 2, none⟩ rfl (.int .i64 pu) HLp.out ?_
                  simp only [Act.put, List.setIfInBounds_toArray, List.set_cons_succ, List.set_cons_zero]
                  repeat (go_big_quiet_step (first | (intro hh; with_reducible exact HBL.out _ hh) | (intro _; rfl)))
                  refine wpQuiet_nil ?_
                  intro wq hBq
                  have HZq := Lib.hid (HZ.out.below hBq)
                  have HBq := Lib.hid (HBz.out.trans (hBq.mono HBz.out.size))
                  have c1 := block_cell HZq.out.k 1
                  have c2 := block_cell HZq.out.k 2
                  clear hBq d1 d1n d2 hw1 hw2 hneq hte htg
                  go_wp2_with fail
                  go_roundg (gko - (i2 + k + 1 - (i + k)))
                  case measure => omega
                  case rel => exact ⟨i2, k + 1, pu + xu.size, by go_num, by go_num, by go_num, by omega, by omega, by omega, HN, HBq⟩
              · have hkI : ¬ (k : Int) < (nm : Int) := by omega
                have hkg : (nm : Int) ≤ (k : Int) := by omega
                have hkd : decide (nm ≤ k) = true := decide_eq_true (by omega)
                have hid : decide (i2 < n + 1) = true := decide_eq_true hi2
                have hok0 := CovL.inv_tok (by have h := HC2.out; rw [drop_filter hx2, if_pos (writ_size.2 hz)] at h; exact h) (fun u h => by rw [List.drop_of_length_le (by rw [← Hnm.out]; omega)] at h; cases h)
                obtain ⟨hok, hcv⟩ := hok0
                go_quiet (fail)
                have HXY := Lib.hid (Hbx.out.below (below_drewN (Below.refl _ _) nq))
                generalize wx.drewN nq = wy at *
                obtain ⟨_, q0, q1, q2⟩ := (HVr.out.below HXY.out.b).cells hx2
                have HBy := Lib.hid (HBr.out.trans (HXY.out.b.mono HBr.out.size))
                have c0 := block_cell HXY.out.k 0
                have c1 := block_cell HXY.out.k 1
                have c2 := block_cell HXY.out.k 2
                have f0 := block_free HXY.out.k 0
                have f1 := block_free HXY.out.k 1
                have f2 := block_free HXY.out.k 2
                clear Hbx
                go_wp2_with fail
                clear c0 c1 c2 f0 f1 f2
                have hbz := boxA_set3 wr wy _ _ _ _ (.int .i64 kx) (.string tx) (.int .i64 px) HXY.out.k HXY.out.b (Nat.le_refl _)
                generalize ((wy.setCell ⟨wr.heap.size, 0, none⟩ (.int .i64 kx)).setCell ⟨wr.heap.size, 1, none⟩ (.string tx)).setCell ⟨wr.heap.size, 2, none⟩ (.int .i64 px) = wz at *
                have HZ := Lib.hid hbz
                have HBz := Lib.hid (HBr.out.trans (hbz.b.mono HBr.out.size))
                clear hbz HXY HBy
                clear q0 q1 q2
                obtain ⟨hta, hts, hte, htg⟩ := hok
                have hta : a ≤ px := hta
                have hts : px + tx.size ≤ s.size := hts
                have hte : s.extract px (px + tx.size) = tx := hte
                have HLp := Lib.hid (fun w1 (h1 : Below wz.heap.size wz w1) => (by have e := (h1.cell (p := ⟨wr.heap.size, 2, none⟩) (lt_of_block HZ.out.k)).trans (block_cell HZ.out.k 2); simp [go_sem, e] : (loadVar 3 ⟨wr.heap.size, 2, none⟩).run Tryd.prog w1 = .ok (.int .i64 px) w1))
                have HLt := Lib.hid (fun w1 (h1 : Below wz.heap.size wz w1) => (by have e := (h1.cell (p := ⟨wr.heap.size, 1, none⟩) (lt_of_block HZ.out.k)).trans (block_cell HZ.out.k 1); simp [go_sem, e] : (loadVar 9 ⟨wr.heap.size, 1, none⟩).run Tryd.prog w1 = .ok (.string tx) w1))
                have HBL := Lib.hid (fun w1 (h1 : Below wz.heap.size wz w1) => (blank20 (s.extract a px) w1 (by rw [ByteArray.size_extract]; omega) (gap_ext htg hta (by show px ≤ s.size; omega))).mono (fun e w2 hh => (⟨hh.1, hh.2 ▸ h1⟩ : e = .returned (.bool true) ∧ Below wz.heap.size wz w2)))
                have hneq := ext_neq _ hte
                have HN := Lib.hid hcv
                have d1 : decide ((px : Int) < (a : Int)) = false := decide_eq_false (by omega)
                have d1n : decide (px < a) = false := decide_eq_false (by omega)
                have d2 : decide ((s.size : Int) - (tx.size : Int) < (px : Int)) = false := decide_eq_false (by omega)
                have hw1 : IntKind.i64.wrap ((s.size : Int) - (tx.size : Int)) = (s.size : Int) - (tx.size : Int) := by simp [IntKind.wrap, IntKind.bits, IntKind.signed]; omega
                have hw2 : IntKind.i64.wrap ((px : Int) + (tx.size : Int)) = ((px + tx.size : Nat) : Int) := by simp [IntKind.wrap, IntKind.bits, IntKind.signed]; omega
                refine wp_region_class (Below wz.heap.size wz) (by kernel_rfl) (by kernel_rfl) (Below.refl _ _).drew ?_
                repeat (go_big_quiet_step (first | (intro _; rfl)))
                refine wpQuiet_load_at (by simp [Region.wanted, yielded, Act.put]) 3 (.tmp 130) rfl ⟨wr.heap.size, 2, none⟩ rfl (.int .i64 px) HLp.out ?_
                simp only [Act.put, List.setIfInBounds_toArray, List.set_cons_succ, List.set_cons_zero]
                repeat (go_big_quiet_step (first | (intro _; rfl)))
                refine wpQuiet_load_at (by simp [Region.wanted, yielded, Act.put]) 3 (.tmp 135) rfl ⟨wr.heap.size, 2, none⟩ rfl (.int .i64 px) HLp.out ?_
                simp only [Act.put, List.setIfInBounds_toArray, List.set_cons_succ, List.set_cons_zero]
                repeat (go_big_quiet_step (first | (intro _; rfl)))
                refine wpQuiet_load_at (by simp [Region.wanted, yielded, Act.put]) 9 (.tmp 139) rfl ⟨wr.heap.size, 1, none⟩ rfl (.string tx) HLt.out ?_
                simp only [Act.put, List.setIfInBounds_toArray, List.set_cons_succ, List.set_cons_zero]
                repeat (go_big_quiet_step (first | (intro _; rfl)))
                refine wpQuiet_load_at (by simp [Region.wanted, yielded, Act.put]) 3 (.tmp 147) rfl ⟨wr.heap.size, 2, none⟩ rfl (.int .i64 px) HLp.out ?_
                simp only [Act.put, List.setIfInBounds_toArray, List.set_cons_succ, List.set_cons_zero]
                repeat (go_big_quiet_step (first | (intro _; rfl)))
                refine wpQuiet_load_at (by simp [Region.wanted, yielded, Act.put]) 3 (.tmp 149) rfl ⟨wr.heap.size, 2, none⟩ rfl (.int .i64 px) HLp.out ?_
                simp only [Act.put, List.setIfInBounds_toArray, List.set_cons_succ, List.set_cons_zero]
                repeat (go_big_quiet_step (first | (intro _; rfl)))
                refine wpQuiet_load_at (by simp [Region.wanted, yielded, Act.put]) 9 (.tmp 151) rfl ⟨wr.heap.size, 1, none⟩ rfl (.string tx) HLt.out ?_
                simp only [Act.put, List.setIfInBounds_toArray, List.set_cons_succ, List.set_cons_zero]
                repeat (go_big_quiet_step (first | (intro _; rfl)))
                refine wpQuiet_load_at (by simp [Region.wanted, yielded, Act.put]) 9 (.tmp 156) rfl ⟨wr.heap.size, 1, none⟩ rfl (.string tx) HLt.out ?_
                simp only [Act.put, List.setIfInBounds_toArray, List.set_cons_succ, List.set_cons_zero]
                repeat (go_big_quiet_step (first | (intro _; rfl)))
                refine wpQuiet_load_at (by simp [Region.wanted, yielded, Act.put]) 3 (.tmp 163) rfl ⟨wr.heap.size, 2, none⟩ rfl (.int .i64 px) HLp.out ?_
                simp only [Act.put, List.setIfInBounds_toArray, List.set_cons_succ, List.set_cons_zero]
                repeat (go_big_quiet_step (first | (intro hh; with_reducible exact HBL.out _ hh) | (intro _; rfl)))
                refine wpQuiet_nil ?_
                intro wq hBq
                have HZq := Lib.hid (HZ.out.below hBq)
                have HBq := Lib.hid (HBz.out.trans (hBq.mono HBz.out.size))
                have c1 := block_cell HZq.out.k 1
                have c2 := block_cell HZq.out.k 2
                clear hBq d1 d1n d2 hw1 hw2 hneq hte htg
                go_wp2_with fail
                go_roundg (gko - (i2 + 1 + k - (i + k)))
                case measure => omega
                case rel => exact ⟨i2 + 1, k, px + tx.size, by go_num, by go_num, by go_num, by omega, by omega, by omega, HN, HBq⟩
          · have hi2I : ¬ (i2 : Int) < (n : Int) + 1 := by omega
            obtain rfl : i2 = n + 1 := by omega
            have hid : decide (n + 1 < n + 1) = false := decide_eq_false (by omega)
            have Hbx := Lib.hid (boxA_made wr #[.int .i64 0, .string ⟨#[]⟩, .int .i64 s.size])
            go_wp2_with fail
            generalize wr.alloc (.cells #[.int .i64 0, .string ⟨#[]⟩, .int .i64 s.size] 31) = wx at *
            by_cases hk2 : k < nm
            · have hkI : (k : Int) < (nm : Int) := by omega
              obtain ⟨⟨ku, xu, pu⟩, hu⟩ : ∃ t, M[k]? = some t := ⟨_, List.getElem?_eq_getElem (by have := Hnm.out; omega)⟩
              obtain ⟨g2, o2, rfl⟩ := Hp2.out (by omega)
              have hub := HT2.out _ (List.mem_of_getElem? hu)
              have hpu : pu ≤ 4194304 := hub.2.2
              have hxu : xu.size ≤ 4194304 := hub.2.1
              clear hub
              have hok0 := CovL.inv_note (by have h := HC2.out; rw [drop_cons hu] at h; exact h) (fun t h => by rw [List.drop_of_length_le (by rw [HLn.out]; omega)] at h; cases h)
              obtain ⟨hok, hcv⟩ := hok0
              go_quiet (fail)
              have HXY := Lib.hid (Hbx.out.below (below_drewN (Below.refl _ _) nq))
              generalize wx.drewN nq = wy at *
              obtain ⟨_, q0, q1, q2⟩ := (HMr.out.below HXY.out.b).cells hu
              have HBy := Lib.hid (HBr.out.trans (HXY.out.b.mono HBr.out.size))
              have c0 := block_cell HXY.out.k 0
              have c1 := block_cell HXY.out.k 1
              have c2 := block_cell HXY.out.k 2
              have f0 := block_free HXY.out.k 0
              have f1 := block_free HXY.out.k 1
              have f2 := block_free HXY.out.k 2
              clear Hbx
              go_wp2_with fail
              clear c0 c1 c2 f0 f1 f2
              have hbz := boxA_set3 wr wy _ _ _ _ (.int .i64 ku) (.string xu) (.int .i64 pu) HXY.out.k HXY.out.b (Nat.le_refl _)
              generalize ((wy.setCell ⟨wr.heap.size, 0, none⟩ (.int .i64 ku)).setCell ⟨wr.heap.size, 1, none⟩ (.string xu)).setCell ⟨wr.heap.size, 2, none⟩ (.int .i64 pu) = wz at *
              have HZ := Lib.hid hbz
              have HBz := Lib.hid (HBr.out.trans (hbz.b.mono HBr.out.size))
              clear hbz HXY HBy
              clear q0 q1 q2
              obtain ⟨hta, hts, hte, htg⟩ := hok
              have hta : a ≤ pu := hta
              have hts : pu + xu.size ≤ s.size := hts
              have hte : s.extract pu (pu + xu.size) = xu := hte
              have HLp := Lib.hid (fun w1 (h1 : Below wz.heap.size wz w1) => (by have e := (h1.cell (p := ⟨wr.heap.size, 2, none⟩) (lt_of_block HZ.out.k)).trans (block_cell HZ.out.k 2); simp [go_sem, e] : (loadVar 3 ⟨wr.heap.size, 2, none⟩).run Tryd.prog w1 = .ok (.int .i64 pu) w1))
              have HLt := Lib.hid (fun w1 (h1 : Below wz.heap.size wz w1) => (by have e := (h1.cell (p := ⟨wr.heap.size, 1, none⟩) (lt_of_block HZ.out.k)).trans (block_cell HZ.out.k 1); simp [go_sem, e] : (loadVar 9 ⟨wr.heap.size, 1, none⟩).run Tryd.prog w1 = .ok (.string xu) w1))
              have HBL := Lib.hid (fun w1 (h1 : Below wz.heap.size wz w1) => (blank20 (s.extract a pu) w1 (by rw [ByteArray.size_extract]; omega) (gap_ext htg hta (by show pu ≤ s.size; omega))).mono (fun e w2 hh => (⟨hh.1, hh.2 ▸ h1⟩ : e = .returned (.bool true) ∧ Below wz.heap.size wz w2)))
              have hneq := ext_neq _ hte
              have HN := Lib.hid hcv
              have d1 : decide ((pu : Int) < (a : Int)) = false := decide_eq_false (by omega)
              have d1n : decide (pu < a) = false := decide_eq_false (by omega)
              have d2 : decide ((s.size : Int) - (xu.size : Int) < (pu : Int)) = false := decide_eq_false (by omega)
              have hw1 : IntKind.i64.wrap ((s.size : Int) - (xu.size : Int)) = (s.size : Int) - (xu.size : Int) := by simp [IntKind.wrap, IntKind.bits, IntKind.signed]; omega
              have hw2 : IntKind.i64.wrap ((pu : Int) + (xu.size : Int)) = ((pu + xu.size : Nat) : Int) := by simp [IntKind.wrap, IntKind.bits, IntKind.signed]; omega
              refine wp_region_class (Below wz.heap.size wz) (by kernel_rfl) (by kernel_rfl) (Below.refl _ _).drew ?_
              repeat (go_big_quiet_step (first | (intro _; rfl)))
              refine wpQuiet_load_at (by simp [Region.wanted, yielded, Act.put]) 3 (.tmp 130) rfl ⟨wr.heap.size, 2, none⟩ rfl (.int .i64 pu) HLp.out ?_
              simp only [Act.put, List.setIfInBounds_toArray, List.set_cons_succ, List.set_cons_zero]
              repeat (go_big_quiet_step (first | (intro _; rfl)))
              refine wpQuiet_load_at (by simp [Region.wanted, yielded, Act.put]) 3 (.tmp 135) rfl ⟨wr.heap.size, 2, none⟩ rfl (.int .i64 pu) HLp.out ?_
              simp only [Act.put, List.setIfInBounds_toArray, List.set_cons_succ, List.set_cons_zero]
              repeat (go_big_quiet_step (first | (intro _; rfl)))
              refine wpQuiet_load_at (by simp [Region.wanted, yielded, Act.put]) 9 (.tmp 139) rfl ⟨wr.heap.size, 1, none⟩ rfl (.string xu) HLt.out ?_
              simp only [Act.put, List.setIfInBounds_toArray, List.set_cons_succ, List.set_cons_zero]
              repeat (go_big_quiet_step (first | (intro _; rfl)))
              refine wpQuiet_load_at (by simp [Region.wanted, yielded, Act.put]) 3 (.tmp 147) rfl ⟨wr.heap.size, 2, none⟩ rfl (.int .i64 pu) HLp.out ?_
              simp only [Act.put, List.setIfInBounds_toArray, List.set_cons_succ, List.set_cons_zero]
              repeat (go_big_quiet_step (first | (intro _; rfl)))
              refine wpQuiet_load_at (by simp [Region.wanted, yielded, Act.put]) 3 (.tmp 149) rfl ⟨wr.heap.size, 2, none⟩ rfl (.int .i64 pu) HLp.out ?_
              simp only [Act.put, List.setIfInBounds_toArray, List.set_cons_succ, List.set_cons_zero]
              repeat (go_big_quiet_step (first | (intro _; rfl)))
              refine wpQuiet_load_at (by simp [Region.wanted, yielded, Act.put]) 9 (.tmp 151) rfl ⟨wr.heap.size, 1, none⟩ rfl (.string xu) HLt.out ?_
              simp only [Act.put, List.setIfInBounds_toArray, List.set_cons_succ, List.set_cons_zero]
              repeat (go_big_quiet_step (first | (intro _; rfl)))
              refine wpQuiet_load_at (by simp [Region.wanted, yielded, Act.put]) 9 (.tmp 156) rfl ⟨wr.heap.size, 1, none⟩ rfl (.string xu) HLt.out ?_
              simp only [Act.put, List.setIfInBounds_toArray, List.set_cons_succ, List.set_cons_zero]
              repeat (go_big_quiet_step (first | (intro _; rfl)))
              refine wpQuiet_load_at (by simp [Region.wanted, yielded, Act.put]) 3 (.tmp 163) rfl ⟨wr.heap.size, 2, none⟩ rfl (.int .i64 pu) HLp.out ?_
              simp only [Act.put, List.setIfInBounds_toArray, List.set_cons_succ, List.set_cons_zero]
              repeat (go_big_quiet_step (first | (intro hh; with_reducible exact HBL.out _ hh) | (intro _; rfl)))
              refine wpQuiet_nil ?_
              intro wq hBq
              have HZq := Lib.hid (HZ.out.below hBq)
              have HBq := Lib.hid (HBz.out.trans (hBq.mono HBz.out.size))
              have c1 := block_cell HZq.out.k 1
              have c2 := block_cell HZq.out.k 2
              clear hBq d1 d1n d2 hw1 hw2 hneq hte htg
              go_wp2_with fail
              go_roundg (gko - (n + 1 + (k + 1) - (i + k)))
              case measure => omega
              case rel => exact ⟨n + 1, k + 1, pu + xu.size, by go_num, by go_num, by go_num, by omega, by omega, by omega, HN, HBq⟩
            · have hkI : ¬ (k : Int) < (nm : Int) := by omega
              obtain rfl : k = nm := by omega
              obtain rfl : a = F := HC2.out.inv_nil (by rw [List.drop_of_length_le (by rw [HLn.out]; omega)]; rfl) (by rw [List.drop_of_length_le (by rw [← Hnm.out]; omega)])
              go_quiet (fail)
              have HBy := Lib.hid (HBr.out.trans ((below_drewN Hbx.out.b nq).mono HBr.out.size))
              clear Hbx
              generalize wx.drewN nq = wy at *
              have hstop : (a : Int) ≤ (s.size : Int) := by omega
              obtain ⟨_, e0, e1, e2⟩ := (HV5.out.below HBy.out).cells Hx.out
              clear e1 e2
              have HBL := Lib.hid (fun w1 => blank20 (s.extract a s.size) w1 (by rw [ByteArray.size_extract]; omega) (gap_ext HGap.out (by omega) (Nat.le_refl _)))
              have haI : (a : Int) ≤ (s.size : Int) := by omega
              go_wp2_with fail
              refine (HBL.out _).mono ?_
              rintro r w1 ⟨rfl, rfl⟩
              go_wp2_with fail
              go_ret
              exact ⟨rfl, HB5.out.trans (HBy.out.mono HB5.out.size)⟩
      · have hiI : ¬ ((n : Int) + 1) < (n : Int) + 1 := by omega
        have hkI : (k : Int) < (nm : Int) := by omega
        have hi : n + 1 ≤ n + 1 := Nat.le_refl _
        go_wp2_with fail
        clear hiI hkI
        go_loopg [9] (n + 1 - (n + 1)) (fun g2 iv2 wr2 => ∃ i2 : Nat, n + 1 ≤ i2 ∧ i2 + g2 = n + 1 ∧ iv2 = .int .i64 i2 ∧ Hid (CovL s a ((L.drop i2).filter writ) (M.drop k) F) ∧ wr2 = wo)
        case atStart => exact ⟨n + 1, Nat.le_refl _, by omega, by go_num, HC, rfl⟩
        case round =>
          obtain ⟨i2, hii, hig2, rfl, HC2, rfl⟩ := hrel
          by_cases hi2 : i2 < n + 1
          · exact absurd hi2 (by omega)
          · have hi2I : ¬ (i2 : Int) < (n : Int) + 1 := by omega
            obtain rfl : i2 = n + 1 := by omega
            have hid : decide (n + 1 < n + 1) = false := decide_eq_false (by omega)
            have Hbx := Lib.hid (boxA_made wr #[.int .i64 0, .string ⟨#[]⟩, .int .i64 s.size])
            go_wp2_with fail
            generalize wr.alloc (.cells #[.int .i64 0, .string ⟨#[]⟩, .int .i64 s.size] 31) = wx at *
            by_cases hk2 : k < nm
            · have hkI : (k : Int) < (nm : Int) := by omega
              obtain ⟨⟨ku, xu, pu⟩, hu⟩ : ∃ t, M[k]? = some t := ⟨_, List.getElem?_eq_getElem (by have := Hnm.out; omega)⟩
              obtain ⟨g2, o2, rfl⟩ := Hp2.out (by omega)
              have hub := HT2.out _ (List.mem_of_getElem? hu)
              have hpu : pu ≤ 4194304 := hub.2.2
              have hxu : xu.size ≤ 4194304 := hub.2.1
              clear hub
              have hok0 := CovL.inv_note (by have h := HC2.out; rw [drop_cons hu] at h; exact h) (fun t h => by rw [List.drop_of_length_le (by rw [HLn.out]; omega)] at h; cases h)
              obtain ⟨hok, hcv⟩ := hok0
              go_quiet (fail)
              have HXY := Lib.hid (Hbx.out.below (below_drewN (Below.refl _ _) nq))
              generalize wx.drewN nq = wy at *
              obtain ⟨_, q0, q1, q2⟩ := (HMr.out.below HXY.out.b).cells hu
              have HBy := Lib.hid (HBr.out.trans (HXY.out.b.mono HBr.out.size))
              have c0 := block_cell HXY.out.k 0
              have c1 := block_cell HXY.out.k 1
              have c2 := block_cell HXY.out.k 2
              have f0 := block_free HXY.out.k 0
              have f1 := block_free HXY.out.k 1
              have f2 := block_free HXY.out.k 2
              clear Hbx
              go_wp2_with fail
              clear c0 c1 c2 f0 f1 f2
              have hbz := boxA_set3 wr wy _ _ _ _ (.int .i64 ku) (.string xu) (.int .i64 pu) HXY.out.k HXY.out.b (Nat.le_refl _)
              generalize ((wy.setCell ⟨wr.heap.size, 0, none⟩ (.int .i64 ku)).setCell ⟨wr.heap.size, 1, none⟩ (.string xu)).setCell ⟨wr.heap.size, 2, none⟩ (.int .i64 pu) = wz at *
              have HZ := Lib.hid hbz
              have HBz := Lib.hid (HBr.out.trans (hbz.b.mono HBr.out.size))
              clear hbz HXY HBy
              clear q0 q1 q2
              obtain ⟨hta, hts, hte, htg⟩ := hok
              have hta : a ≤ pu := hta
              have hts : pu + xu.size ≤ s.size := hts
              have hte : s.extract pu (pu + xu.size) = xu := hte
              have HLp := Lib.hid (fun w1 (h1 : Below wz.heap.size wz w1) => (by have e := (h1.cell (p := ⟨wr.heap.size, 2, none⟩) (lt_of_block HZ.out.k)).trans (block_cell HZ.out.k 2); simp [go_sem, e] : (loadVar 3 ⟨wr.heap.size, 2, none⟩).run Tryd.prog w1 = .ok (.int .i64 pu) w1))
              have HLt := Lib.hid (fun w1 (h1 : Below wz.heap.size wz w1) => (by have e := (h1.cell (p := ⟨wr.heap.size, 1, none⟩) (lt_of_block HZ.out.k)).trans (block_cell HZ.out.k 1); simp [go_sem, e] : (loadVar 9 ⟨wr.heap.size, 1, none⟩).run Tryd.prog w1 = .ok (.string xu) w1))
              have HBL := Lib.hid (fun w1 (h1 : Below wz.heap.size wz w1) => (blank20 (s.extract a pu) w1 (by rw [ByteArray.size_extract]; omega) (gap_ext htg hta (by show pu ≤ s.size; omega))).mono (fun e w2 hh => (⟨hh.1, hh.2 ▸ h1⟩ : e = .returned (.bool true) ∧ Below wz.heap.size wz w2)))
              have hneq := ext_neq _ hte
              have HN := Lib.hid hcv
              have d1 : decide ((pu : Int) < (a : Int)) = false := decide_eq_false (by omega)
              have d1n : decide (pu < a) = false := decide_eq_false (by omega)
              have d2 : decide ((s.size : Int) - (xu.size : Int) < (pu : Int)) = false := decide_eq_false (by omega)
              have hw1 : IntKind.i64.wrap ((s.size : Int) - (xu.size : Int)) = (s.size : Int) - (xu.size : Int) := by simp [IntKind.wrap, IntKind.bits, IntKind.signed]; omega
              have hw2 : IntKind.i64.wrap ((pu : Int) + (xu.size : Int)) = ((pu + xu.size : Nat) : Int) := by simp [IntKind.wrap, IntKind.bits, IntKind.signed]; omega
              refine wp_region_class (Below wz.heap.size wz) (by kernel_rfl) (by kernel_rfl) (Below.refl _ _).drew ?_
              repeat (go_big_quiet_step (first | (intro _; rfl)))
              refine wpQuiet_load_at (by simp [Region.wanted, yielded, Act.put]) 3 (.tmp 130) rfl ⟨wr.heap.size, 2, none⟩ rfl (.int .i64 pu) HLp.out ?_
              simp only [Act.put, List.setIfInBounds_toArray, List.set_cons_succ, List.set_cons_zero]
              repeat (go_big_quiet_step (first | (intro _; rfl)))
              refine wpQuiet_load_at (by simp [Region.wanted, yielded, Act.put]) 3 (.tmp 135) rfl ⟨wr.heap.size, 2, none⟩ rfl (.int .i64 pu) HLp.out ?_
              simp only [Act.put, List.setIfInBounds_toArray, List.set_cons_succ, List.set_cons_zero]
              repeat (go_big_quiet_step (first | (intro _; rfl)))
              refine wpQuiet_load_at (by simp [Region.wanted, yielded, Act.put]) 9 (.tmp 139) rfl ⟨wr.heap.size, 1, none⟩ rfl (.string xu) HLt.out ?_
              simp only [Act.put, List.setIfInBounds_toArray, List.set_cons_succ, List.set_cons_zero]
              repeat (go_big_quiet_step (first | (intro _; rfl)))
              refine wpQuiet_load_at (by simp [Region.wanted, yielded, Act.put]) 3 (.tmp 147) rfl ⟨wr.heap.size, 2, none⟩ rfl (.int .i64 pu) HLp.out ?_
              simp only [Act.put, List.setIfInBounds_toArray, List.set_cons_succ, List.set_cons_zero]
              repeat (go_big_quiet_step (first | (intro _; rfl)))
              refine wpQuiet_load_at (by simp [Region.wanted, yielded, Act.put]) 3 (.tmp 149) rfl ⟨wr.heap.size, 2, none⟩ rfl (.int .i64 pu) HLp.out ?_
              simp only [Act.put, List.setIfInBounds_toArray, List.set_cons_succ, List.set_cons_zero]
              repeat (go_big_quiet_step (first | (intro _; rfl)))
              refine wpQuiet_load_at (by simp [Region.wanted, yielded, Act.put]) 9 (.tmp 151) rfl ⟨wr.heap.size, 1, none⟩ rfl (.string xu) HLt.out ?_
              simp only [Act.put, List.setIfInBounds_toArray, List.set_cons_succ, List.set_cons_zero]
              repeat (go_big_quiet_step (first | (intro _; rfl)))
              refine wpQuiet_load_at (by simp [Region.wanted, yielded, Act.put]) 9 (.tmp 156) rfl ⟨wr.heap.size, 1, none⟩ rfl (.string xu) HLt.out ?_
              simp only [Act.put, List.setIfInBounds_toArray, List.set_cons_succ, List.set_cons_zero]
              repeat (go_big_quiet_step (first | (intro _; rfl)))
              refine wpQuiet_load_at (by simp [Region.wanted, yielded, Act.put]) 3 (.tmp 163) rfl ⟨wr.heap.size, 2, none⟩ rfl (.int .i64 pu) HLp.out ?_
              simp only [Act.put, List.setIfInBounds_toArray, List.set_cons_succ, List.set_cons_zero]
              repeat (go_big_quiet_step (first | (intro hh; with_reducible exact HBL.out _ hh) | (intro _; rfl)))
              refine wpQuiet_nil ?_
              intro wq hBq
              have HZq := Lib.hid (HZ.out.below hBq)
              have HBq := Lib.hid (HBz.out.trans (hBq.mono HBz.out.size))
              have c1 := block_cell HZq.out.k 1
              have c2 := block_cell HZq.out.k 2
              clear hBq d1 d1n d2 hw1 hw2 hneq hte htg
              go_wp2_with fail
              go_roundg (gko - (n + 1 + (k + 1) - ((n + 1) + k)))
              case measure => omega
              case rel => exact ⟨n + 1, k + 1, pu + xu.size, by go_num, by go_num, by go_num, by omega, by omega, by omega, HN, HBq⟩
            · exact absurd hk2o hk2
end Go.Proofs.YtejogobhnbjpdaaDoor
