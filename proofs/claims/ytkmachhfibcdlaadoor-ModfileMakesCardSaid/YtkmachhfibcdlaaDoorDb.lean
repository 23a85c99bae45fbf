/- Walks: the statement ModfileBlank. -/
import Derived.Test.YtkmachhfibcdlaaDoorDa
import Derived.Test.YtkmachhfibcdlaaDoorCi
namespace Go.Proofs.YtkmachhfibcdlaaDoor
set_option linter.unusedVariables false
set_option linter.unusedSimpArgs false
open Go.ChangeShapes Go.WideShapes Go.ChangeAt Go.RowKit

theorem lineR_small {R : MR} {ws : List ByteArray} (hR : ∀ t ∈ R.reps, RpB t) (hw : ∀ x ∈ ws, x.size ≤ 1048576) : ∀ t ∈ (lineR R ws).2.reps, RpB t := by
  have hg : ∀ (ws : List ByteArray), (∀ x ∈ ws, x.size ≤ 1048576) → (ws.getD 0 ⟨#[]⟩).size ≤ 4194304 := fun ws h => by
    cases ws with
    | nil => exact Nat.zero_le _
    | cons a l => have := h a List.mem_cons_self; show a.size ≤ _; omega
  have h1 : ∀ R ws, (moduleR R ws).2.reps = R.reps := fun R ws => by unfold moduleR; split <;> rfl
  have h2 : ∀ R ws, (releaseR R ws).2.reps = R.reps := fun R ws => by
    unfold releaseR; split
    · split <;> rfl
    · rfl
  have h3 : ∀ (ws : List ByteArray), (∀ x ∈ ws, x.size ≤ 1048576) → ∀ t ∈ (replaceR R ws).2.reps, RpB t := fun ws hw => by
    unfold replaceR replY
    repeat' split
    all_goals first | exact hR | skip
    intro t ht
    rcases List.mem_append.1 ht with ht | ht
    · exact hR t ht
    · rw [List.mem_singleton.1 ht]
      exact ⟨hg ws hw, hg _ (fun x hx => hw x (List.mem_of_mem_drop hx))⟩
  have h4 : ∀ v (ws : List ByteArray), (∀ x ∈ ws, x.size ≤ 1048576) → ∀ t ∈ (verbR R v ws).2.reps, RpB t := fun v ws hw => by
    unfold verbR verbS
    repeat' split
    all_goals first | exact h3 ws hw | (rw [h1]; exact hR) | (rw [h2]; exact hR) | exact hR
  unfold lineR
  repeat' split
  all_goals first | exact h4 _ _ hw | exact h4 _ _ (fun x hx => hw x (List.mem_of_mem_drop hx)) | exact hR
theorem goM_small : ∀ (X : List ByteArray) (R : MR) (i : Nat), (∀ l ∈ X, l.size ≤ 1048576) → (∀ t ∈ R.reps, RpB t) → (∀ t ∈ (goM R i X).2.reps, RpB t) ∧ (goM R i X).2.reps.length ≤ R.reps.length + X.length
  | [], R, i, _, hR => ⟨hR, by show R.reps.length ≤ _; simp⟩
  | l :: X, R, i, hX, hR => by
    have hX' : ∀ l ∈ X, l.size ≤ 1048576 := fun z hz => hX z (List.mem_cons_of_mem _ hz)
    have hw : ∀ x ∈ wordsL l, x.size ≤ 1048576 := fun x hx => by have := wordsL_size l x hx; have := hX l List.mem_cons_self; omega
    by_cases h0 : wordsL l = []
    · rw [goM_dull h0]
      obtain ⟨h1, h2⟩ := goM_small X R (i + 1) hX' hR
      exact ⟨h1, by rw [List.length_cons]; omega⟩
    cases h1 : (lineR R (wordsL l)).1 with
    | true =>
      rw [goM_on h0 h1]
      obtain ⟨h2, h3⟩ := goM_small X _ (i + 1) hX' (lineR_small hR hw)
      have := lineR_reps R (wordsL l)
      exact ⟨h2, by rw [List.length_cons]; omega⟩
    | false =>
      rw [goM_bad h0 h1]
      exact ⟨hR, by show R.reps.length ≤ _; omega⟩
theorem mod_small (s : ByteArray) (hL : ∀ l ∈ cutB 10 s, l.size ≤ 1048576) : (∀ t ∈ (modM s).reps, RpB t) ∧ (modM s).reps.length ≤ (cutB 10 s).length := by
  have h := goM_small (cutB 10 s) R0 0 hL (by intro t ht; cases ht)
  unfold modM modX
  generalize goM R0 0 (cutB 10 s) = r at *
  have e : R0.reps.length = 0 := rfl
  unfold endM
  repeat' split
  · exact ⟨(fun t (ht : t ∈ ([] : List Rp)) => absurd ht List.not_mem_nil), Nat.zero_le _⟩
  · exact ⟨(fun t (ht : t ∈ ([] : List Rp)) => absurd ht List.not_mem_nil), Nat.zero_le _⟩
  · exact ⟨h.1, by show r.2.reps.length ≤ _; omega⟩
theorem goM_fault : ∀ (X : List ByteArray) (R : MR) (i : Nat), (goM R i X).1 ≤ i + X.length
  | [], R, i => Nat.zero_le _
  | l :: X, R, i => by
    by_cases h0 : wordsL l = []
    · rw [goM_dull h0]
      have := goM_fault X R (i + 1)
      rw [List.length_cons]; omega
    cases h1 : (lineR R (wordsL l)).1 with
    | true =>
      rw [goM_on h0 h1]
      have := goM_fault X (lineR R (wordsL l)).2 (i + 1)
      rw [List.length_cons]; omega
    | false =>
      rw [goM_bad h0 h1, List.length_cons]
      show i + 1 ≤ _
      omega
theorem mod_fault (s : ByteArray) : (modM s).fault ≤ (cutB 10 s).length := by
  have h := goM_fault (cutB 10 s) R0 0
  unfold modM modX
  generalize goM R0 0 (cutB 10 s) = r at *
  unfold endM
  repeat' split
  · show r.1 ≤ _; omega
  · exact Nat.le_refl _
  · exact Nat.zero_le _
theorem piece_made (T note l : ByteArray) : (T ++ ⟨#[9, 32, 13, 47, 47]⟩ ++ note ++ ⟨#[10, 32, 9]⟩ ++ l ++ ⟨#[32, 47, 47]⟩ ++ note).data.toList = T.data.toList ++ pieceB note.data.toList l.data.toList := by
  simp only [ba_append]
  unfold pieceB lineA lineB
  simp only [List.append_assoc, List.cons_append, List.nil_append]
theorem piece_more (T note l : ByteArray) : (T ++ ⟨#[10]⟩ ++ ⟨#[9, 32, 13, 47, 47]⟩ ++ note ++ ⟨#[10, 32, 9]⟩ ++ l ++ ⟨#[32, 47, 47]⟩ ++ note).data.toList = T.data.toList ++ 10 :: pieceB note.data.toList l.data.toList := by
  rw [piece_made (T ++ ⟨#[10]⟩) note l, ba_append, List.append_assoc]
  rfl
set_option maxRecDepth 100000 in
set_option maxHeartbeats 1500000 in
theorem blank_walk (s note : ByteArray) (w : World) (hE : Env w) (hs : s.size ≤ 140737488351232) (hn : note.size ≤ 140737488351232) :
    Calls Tryd.prog 3 #[.string s, .string note] w fun e w' => e = .returned (.bool true) ∧ Below w.heap.size w w' := by
  have HA := Lib.hid (alive_any w hE)
  have HE := Lib.hid hE
  clear hE
  by_cases h1 : 1024 < s.size
  · have h1I : (1024 : Int) < (s.size : Int) := by omega
    go_enter Tryd.func3, Tryd.ntmps3
    go_wp2_with fail
    refine HA.out.mono ?_
    rintro r w1 ⟨rfl, hB⟩
    have HB := Lib.hid hB
    clear hB
    go_wp2_with fail
    go_ret
    exact ⟨rfl, HB.out⟩
  have h1I : ¬ (1024 : Int) < (s.size : Int) := by omega
  by_cases h2 : 512 < note.size
  · have h2I : (512 : Int) < (note.size : Int) := by omega
    go_enter Tryd.func3, Tryd.ntmps3
    go_wp2_with fail
    refine HA.out.mono ?_
    rintro r w1 ⟨rfl, hB⟩
    have HB := Lib.hid hB
    clear hB
    go_wp2_with fail
    go_ret
    exact ⟨rfl, HB.out⟩
  have h2I : ¬ (512 : Int) < (note.size : Int) := by omega
  have HX := Lib.hid (cutB_le 10 s)
  have hX0 := cutB_ne 10 s
  have hXm : (cutB 10 s).length ≤ 1025 := by have := cutB_cnt 10 s; have := cnt_len (cutB 10 s); omega
  have HSp := Lib.hid (fun w1 => rcut_any s 10 w1 (by omega))
  obtain ⟨X, hXe⟩ : ∃ X, cutB 10 s = X := ⟨_, rfl⟩
  have HXe := Lib.hid hXe
  rw [hXe] at HX hX0 hXm HSp
  clear hXe
  have e10 : ((10 : UInt8).toNat : Int) = 10 := rfl
  rw [e10] at HSp
  clear e10
  go_enter Tryd.func3, Tryd.ntmps3
  go_wp2_with fail
  refine HA.out.mono ?_
  rintro r w1 ⟨rfl, hB⟩
  have HB1 := Lib.hid hB
  clear hB HA
  go_wp2_with fail
  go_loopg [5] note.size (fun g iv wr => ∃ i : Nat, i + g = note.size ∧ iv = .int .i64 i ∧ Hid (∀ j, j < i → byt note j ≠ 10) ∧ wr = w1)
  case atStart => exact ⟨0, by omega, rfl, Lib.hid (fun j h => absurd h (Nat.not_lt_zero _)), rfl⟩
  case round =>
    obtain ⟨i, hig, rfl, HI, rfl⟩ := hrel
    by_cases hi : i < note.size
    · have hiI : (i : Int) < (note.size : Int) := by omega
      have hb : (note[i]'hi).toNat = byt note i := by unfold byt; rw [get_is note i hi]
      by_cases hc : byt note i = 10
      · have u : (((note[i]'hi).toNat : Int) == 10) = true := by rw [hb, hc]; rfl
        clear hb hc
        go_wp2_with fail
        go_ret
        exact ⟨rfl, HB1.out⟩
      · have u : (((note[i]'hi).toNat : Int) == 10) = false := by rw [hb]; exact beq_eq_false_iff_ne.2 (by omega)
        have HC := Lib.hid hc
        clear hb hc
        go_wp2_with fail
        go_roundg (gk - 1)
        case measure => omega
        case rel =>
          refine ⟨i + 1, by omega, by go_num, Lib.hid (fun j hj => ?_), rfl⟩
          by_cases he : j = i
          · rw [he]; exact HC.out
          · exact HI.out j (by omega)
    have hiI : ¬ (i : Int) < (note.size : Int) := by omega
    have HN := Lib.hid (show (10 : UInt8) ∉ note.data.toList from fun hm => by
      obtain ⟨j, hj, he⟩ := List.mem_iff_getElem.1 hm
      have hjs : j < note.size := by rw [Lib.size_eq]; exact hj
      refine HI.out j (by omega) ?_
      have h := byt_list hjs
      rw [List.getElem?_eq_getElem hj, he] at h
      injection h with h
      unfold byt
      rw [← h]; rfl)
    clear HI
    go_wp2_with fail
    refine (HSp.out _).mono ?_
    rintro r w2 ⟨v, rfl, hown, hB⟩
    have hS : Strs w2 v X := Strs.ofRow hown
    obtain ⟨pv, cv, rfl⟩ := own_sliceS hown
    obtain ⟨_, hq⟩ := hS.cells
    obtain ⟨hv1, hv2, g1, off1, rfl, hg1, hcl⟩ := hq hX0
    have HB2 := Lib.hid (HB1.out.trans (hB.mono HB1.out.size))
    have HC := Lib.hid hcl
    have hXl : X.length ≤ 9223372036854775807 := by omega
    clear hB hown hS hq hcl HSp
    have HCX : Hid (∀ k (h : k < X.length), (cuts 10 [] s.data.toList)[k]? = some (X[k]'h).data.toList) := Lib.hid (fun k h => by
      have h1 : (cutB 10 s)[k]? = some (X[k]'h) := by rw [HXe.out]; exact List.getElem?_eq_getElem h
      unfold cutB at h1
      rw [List.getElem?_map] at h1
      cases h2 : (cuts 10 [] s.data.toList)[k]? with
      | none => rw [h2] at h1; cases h1
      | some c =>
        rw [h2] at h1
        injection h1 with h1
        rw [← h1, mkB_toList])
    have HCl := Lib.hid (show (cuts 10 [] s.data.toList).length = X.length by
      rw [← HXe.out]; unfold cutB; rw [List.length_map])
    go_wp2_with fail
    go_loopg [6, 7, 8, 34] X.length (fun g tv _ _ iv wr => ∃ (k : Nat) (T : ByteArray), k + g = X.length ∧ iv = .int .i64 k ∧ tv = .string T ∧ T.size ≤ k * 2100 ∧ Hid (T.data.toList = textT note.data.toList ((cuts 10 [] s.data.toList).take k)) ∧ wr = w2)
    case atStart => exact ⟨0, ⟨#[]⟩, by omega, rfl, rfl, Nat.zero_le _, Lib.hid (by rw [List.take_zero]; rfl), rfl⟩
    case round =>
      obtain ⟨k, T, hkg, rfl, rfl, hTs, HT, rfl⟩ := hrel
      by_cases hk : k < X.length
      case neg =>
        have hkI : ¬ (k : Int) < (X.length : Int) := by omega
        have HTe := Lib.hid (show T = mkB (textT note.data.toList (cuts 10 [] s.data.toList)) by
          rw [← mkB_data T, HT.out, List.take_of_length_le (by rw [HCl.out]; omega)])
        have HBM := Lib.hid (blank_mod s note.data.toList _ HN.out rfl)
        rw [← HTe.out] at HBM
        have HLs := Lib.hid (show ∀ l ∈ cutB 10 s, l.size ≤ 1048576 from fun l hl => by
          obtain ⟨q, hq, rfl⟩ := List.mem_iff_getElem.1 hl
          have := cutB_le 10 s q hq
          omega)
        have HLt := Lib.hid (show ∀ l ∈ cutB 10 T, l.size ≤ 1048576 from fun l hl => by
          rw [HBM.out.1] at hl
          obtain ⟨x, hx, hlx⟩ := List.mem_flatMap.1 hl
          obtain ⟨q, hq, hqx⟩ := List.mem_iff_getElem.1 hx
          have h1 := cutB_le 10 s q hq
          rw [hqx] at h1
          simp only [twoB, List.mem_cons, List.not_mem_nil, or_false] at hlx
          rcases hlx with rfl | rfl
          · rw [mkB_size]; unfold lineA; simp only [List.length_append, List.length_cons, List.length_nil, ba_len]; omega
          · rw [mkB_size]; unfold lineB; simp only [List.length_append, List.length_cons, List.length_nil, ba_len]; omega)
        have HP1 := Lib.hid (parse_any s wr (HE.out.below HB2.out) (by omega))
        have HP2 := Lib.hid (fun w1 (hB : Below w.heap.size w w1) => parse_big T w1 (HE.out.below hB) (by omega) HLt.out)
        have hsm := mod_small s HLs.out
        have hfl := mod_fault s
        rw [HXe.out] at hsm hfl
        have hbm := HBM.out.2
        generalize modM s = M1 at *
        generalize modM T = M2 at *
        have HM := Lib.hid hsm
        have hfl' : M1.fault ≤ 1025 := by omega
        clear HBM HLs HLt HTe HT HN HX HXe HC HCX HCl hsm hfl
        by_cases hf : 0 < M1.fault
        · have hf2 := hbm.1 hf
          have hfI : (0 : Int) < (M1.fault : Int) := by omega
          have u : ((M2.fault : Int) == 2 * (M1.fault : Int)) = true := beq_iff_eq.2 (by omega)
          have ub : (M1.fault : Int) ≤ 1025 := by omega
          clear hbm hf2
          go_wp2_with fail
          refine HP1.out.mono ?_
          rintro r w4 ⟨v1, rfl, ⟨rv1, rfl, hr1⟩, hB4⟩
          obtain ⟨p4, c4, rfl, _⟩ := lat_shape hr1
          have HB4 := Lib.hid (HB2.out.trans (hB4.mono HB2.out.size))
          clear hB4 hr1 HP1
          go_wp2_with fail
          refine (HP2.out _ HB4.out).mono ?_
          rintro r w5 ⟨v2, rfl, ⟨rv2, rfl, hr2⟩, hB5⟩
          obtain ⟨p5, c5, rfl, _⟩ := lat_shape hr2
          have HB5 := Lib.hid (HB4.out.trans (hB5.mono HB4.out.size))
          clear hB5 hr2 HP2
          go_upto_region 21 with fail
          have hn1 := heap_alloc_new w5 (.cells #[.string M1.path, .int .i64 M1.lvl, .slice p4 M1.reps.length c4, .int .i64 (M1.fault : Nat)] 27)
          have hsz1 : (w5.alloc (.cells #[.string M1.path, .int .i64 M1.lvl, .slice p4 M1.reps.length c4, .int .i64 (M1.fault : Nat)] 27)).heap.size = w5.heap.size + 1 := by simp
          have hn1' := (heap_alloc_old (w5.alloc (.cells #[.string M1.path, .int .i64 M1.lvl, .slice p4 M1.reps.length c4, .int .i64 (M1.fault : Nat)] 27)) (.cells #[.string M2.path, .int .i64 M2.lvl, .slice p5 M2.reps.length c5, .int .i64 (M2.fault : Nat)] 27) (show w5.heap.size < _ from by rw [hsz1]; omega)).trans hn1
          have hn2 := new2 w5 (.cells #[.string M1.path, .int .i64 M1.lvl, .slice p4 M1.reps.length c4, .int .i64 (M1.fault : Nat)] 27) (.cells #[.string M2.path, .int .i64 M2.lvl, .slice p5 M2.reps.length c5, .int .i64 (M2.fault : Nat)] 27)
          have HBa := Lib.hid (show Below w5.heap.size w5 ((w5.alloc (.cells #[.string M1.path, .int .i64 M1.lvl, .slice p4 M1.reps.length c4, .int .i64 (M1.fault : Nat)] 27)).alloc (.cells #[.string M2.path, .int .i64 M2.lvl, .slice p5 M2.reps.length c5, .int .i64 (M2.fault : Nat)] 27)) from ((Below.refl _ _).alloc (Nat.le_refl _) _).alloc (by simp) _)
          have HB6 := Lib.hid (HB5.out.trans (HBa.out.mono HB5.out.size))
          clear hn1 hsz1
          generalize (w5.alloc (.cells #[.string M1.path, .int .i64 M1.lvl, .slice p4 M1.reps.length c4, .int .i64 (M1.fault : Nat)] 27)).alloc (.cells #[.string M2.path, .int .i64 M2.lvl, .slice p5 M2.reps.length c5, .int .i64 (M2.fault : Nat)] 27) = w6 at *
          have c3 := block_cell hn1' 3
          have d3 := block_cell hn2 3
          clear hn1' hn2
          go_wp2_with fail
          go_ret
          exact ⟨rfl, HB6.out⟩
        · have hf0 : M1.fault = 0 := by omega
          have hM2 := hbm.2 hf0
          subst hM2
          have hfI : ¬ (0 : Int) < (M2.fault : Int) := by omega
          clear hbm hf hfl'
          go_wp2_with fail
          refine HP1.out.mono ?_
          rintro r w4 ⟨v1, rfl, ⟨rv1, rfl, hr1⟩, hB4⟩
          obtain ⟨p4, c4, rfl, _⟩ := lat_shape hr1
          have HB4 := Lib.hid (HB2.out.trans (hB4.mono HB2.out.size))
          have Hr1 := Lib.hid hr1
          clear hB4 hr1 HP1
          go_wp2_with fail
          refine (HP2.out _ HB4.out).mono ?_
          rintro r w5 ⟨v2, rfl, ⟨rv2, rfl, hr2⟩, hB5⟩
          obtain ⟨p5, c5, rfl, _⟩ := lat_shape hr2
          have HB5 := Lib.hid (HB4.out.trans (hB5.mono HB4.out.size))
          have Hr3 := Lib.hid (Hr1.out.below hB5)
          have Hr2 := Lib.hid hr2
          clear hB5 hr2 HP2 Hr1
          go_upto_region 21 with fail
          have hn1 := heap_alloc_new w5 (.cells #[.string M2.path, .int .i64 M2.lvl, .slice p4 M2.reps.length c4, .int .i64 0] 27)
          have hsz1 : (w5.alloc (.cells #[.string M2.path, .int .i64 M2.lvl, .slice p4 M2.reps.length c4, .int .i64 0] 27)).heap.size = w5.heap.size + 1 := by simp
          have hn1' := (heap_alloc_old (w5.alloc (.cells #[.string M2.path, .int .i64 M2.lvl, .slice p4 M2.reps.length c4, .int .i64 0] 27)) (.cells #[.string M2.path, .int .i64 M2.lvl, .slice p5 M2.reps.length c5, .int .i64 0] 27) (show w5.heap.size < _ from by rw [hsz1]; omega)).trans hn1
          have hn2 := new2 w5 (.cells #[.string M2.path, .int .i64 M2.lvl, .slice p4 M2.reps.length c4, .int .i64 0] 27) (.cells #[.string M2.path, .int .i64 M2.lvl, .slice p5 M2.reps.length c5, .int .i64 0] 27)
          have HBa := Lib.hid (show Below w5.heap.size w5 ((w5.alloc (.cells #[.string M2.path, .int .i64 M2.lvl, .slice p4 M2.reps.length c4, .int .i64 0] 27)).alloc (.cells #[.string M2.path, .int .i64 M2.lvl, .slice p5 M2.reps.length c5, .int .i64 0] 27)) from ((Below.refl _ _).alloc (Nat.le_refl _) _).alloc (by simp) _)
          have HB6 := Lib.hid (HB5.out.trans (HBa.out.mono HB5.out.size))
          clear hn1 hsz1
          generalize (w5.alloc (.cells #[.string M2.path, .int .i64 M2.lvl, .slice p4 M2.reps.length c4, .int .i64 0] 27)).alloc (.cells #[.string M2.path, .int .i64 M2.lvl, .slice p5 M2.reps.length c5, .int .i64 0] 27) = w6 at *
          have c3 := block_cell hn1' 3
          have d3 := block_cell hn2 3
          have HS := Lib.hid (show Calls Tryd.prog 9 #[.agg #[.string M2.path, .int .i64 M2.lvl, .slice p4 M2.reps.length c4, .int .i64 0], .agg #[.string M2.path, .int .i64 M2.lvl, .slice p5 M2.reps.length c5, .int .i64 0]] w6 (fun e w' => e = .returned (.bool true) ∧ Below w6.heap.size w6 w') from by
            have hz : ((M2.fault : Nat) : Int) = 0 := by omega
            have h := same_true M2 (.agg #[.string M2.path, .int .i64 M2.lvl, .slice p4 M2.reps.length c4, .int .i64 (M2.fault : Nat)]) (.agg #[.string M2.path, .int .i64 M2.lvl, .slice p5 M2.reps.length c5, .int .i64 (M2.fault : Nat)]) w6 ⟨_, rfl, Hr3.out.below HBa.out⟩ ⟨_, rfl, Hr2.out.below HBa.out⟩ HM.out.1 (by have := HM.out.2; omega)
            rw [hz] at h
            exact h)
          have c0 := block_cell hn1' 0
          have c1 := block_cell hn1' 1
          have c2 := block_cell hn1' 2
          have d0 := block_cell hn2 0
          have d1 := block_cell hn2 1
          have d2 := block_cell hn2 2
          clear hn1' hn2
          go_wp2_with fail
          refine HS.out.mono ?_
          rintro r w7 ⟨rfl, hB7⟩
          have HB7 := Lib.hid (HB6.out.trans (hB7.mono HB6.out.size))
          clear hB7
          go_wp2_with fail
          go_ret
          exact ⟨rfl, HB7.out⟩
      have hkI : (k : Int) < (X.length : Int) := by omega
      have hls := HX.out k hk
      have hc := HC.out k hk
      have HE2 := Lib.hid (HCX.out k hk)
      generalize X[k]'hk = l at *
      have HN1 := Lib.hid (show ∀ T2 : ByteArray, (T2.data.toList = if k = 0 then pieceB note.data.toList l.data.toList else T.data.toList ++ 10 :: pieceB note.data.toList l.data.toList) → T2.data.toList = textT note.data.toList ((cuts 10 [] s.data.toList).take (k + 1)) from fun T2 h2 => by
        have hkc : k < (cuts 10 [] s.data.toList).length := by rw [HCl.out]; exact hk
        have he : (cuts 10 [] s.data.toList)[k] = l.data.toList := by
          have := HE2.out
          rw [List.getElem?_eq_getElem hkc] at this
          injection this
        rw [List.take_succ_eq_append_getElem hkc, he, h2]
        by_cases hk0 : k = 0
        · subst hk0
          rw [if_pos rfl, List.take_zero]
          rfl
        · rw [if_neg hk0, textT_snoc _ _ _ (by
            intro e
            have := congrArg List.length e
            rw [List.length_take] at this
            simp only [List.length_nil] at this
            omega), HT.out])
      have HZ := Lib.hid (show ∀ T2 : ByteArray, (T2.data.toList = if k = 0 then pieceB note.data.toList l.data.toList else T.data.toList ++ 10 :: pieceB note.data.toList l.data.toList) → T2.size ≤ (k + 1) * 2100 from fun T2 h2 => by
        have e1 := congrArg List.length h2
        rw [ba_len] at e1
        have e2 : (pieceB note.data.toList l.data.toList).length ≤ 2098 := by
          unfold pieceB lineA lineB
          simp only [List.length_append, List.length_cons, List.length_nil, ba_len]
          omega
        split at e1
        · omega
        · rw [List.length_append, List.length_cons, ba_len] at e1
          omega)
      by_cases hk0 : k = 0
      · subst hk0
        rw [Nat.add_zero] at hc
        have HT0 := Lib.hid (show T.data.toList = [] from HT.out)
        have HZ0 := Lib.hid (show ∀ T2 : ByteArray, T2.data.toList = pieceB note.data.toList l.data.toList → T2.size ≤ (0 + 1) * 2100 from fun T2 h => HZ.out T2 (by rw [if_pos rfl]; exact h))
        have HN0 := Lib.hid (show ∀ T2 : ByteArray, T2.data.toList = pieceB note.data.toList l.data.toList → T2.data.toList = textT note.data.toList ((cuts 10 [] s.data.toList).take (0 + 1)) from fun T2 h => HN1.out T2 (by rw [if_pos rfl]; exact h))
        clear HZ HN1
        by_cases hl0 : l.size = 0
        · have hl0I : ¬ (0 : Int) < (l.size : Int) := by omega
          go_wp2_with fail
          go_roundg (gk - 1)
          case measure => omega
          case rel =>
            refine ⟨0 + 1, _, by omega, by go_num, rfl, ?_, Lib.hid ?_, rfl⟩
            · exact HZ0.out _ ((piece_made T note l).trans (by rw [HT0.out]; rfl))
            · exact HN0.out _ ((piece_made T note l).trans (by rw [HT0.out]; rfl))
        have hl0I : (0 : Int) < (l.size : Int) := by omega
        obtain ⟨q, hq⟩ : ∃ q, l.size = q + 1 := ⟨l.size - 1, by omega⟩
        have hqs : q < l.size := by omega
        have hqI : (l.size : Int) - 1 = (q : Int) := by omega
        by_cases hlast : ((l[q]'hqs).toNat : Int) = 47
        · have u : (((l[q]'hqs).toNat : Int) == 47) = true := beq_iff_eq.2 hlast
          clear hlast
          go_wp2_with fail
          go_ret
          exact ⟨rfl, HB2.out⟩
        have u : (((l[q]'hqs).toNat : Int) == 47) = false := beq_eq_false_iff_ne.2 hlast
        clear hlast
        go_wp2_with fail
        go_roundg (gk - 1)
        case measure => omega
        case rel =>
          refine ⟨0 + 1, _, by omega, by go_num, rfl, ?_, Lib.hid ?_, rfl⟩
          · exact HZ0.out _ ((piece_made T note l).trans (by rw [HT0.out]; rfl))
          · exact HN0.out _ ((piece_made T note l).trans (by rw [HT0.out]; rfl))
      · have hk0I : (0 : Int) < (k : Int) := by omega
        have HZ1 := Lib.hid (show ∀ T2 : ByteArray, T2.data.toList = T.data.toList ++ 10 :: pieceB note.data.toList l.data.toList → T2.size ≤ (k + 1) * 2100 from fun T2 h => HZ.out T2 (by rw [if_neg hk0]; exact h))
        have HN2 := Lib.hid (show ∀ T2 : ByteArray, T2.data.toList = T.data.toList ++ 10 :: pieceB note.data.toList l.data.toList → T2.data.toList = textT note.data.toList ((cuts 10 [] s.data.toList).take (k + 1)) from fun T2 h => HN1.out T2 (by rw [if_neg hk0]; exact h))
        clear HZ HN1
        by_cases hl0 : l.size = 0
        · have hl0I : ¬ (0 : Int) < (l.size : Int) := by omega
          go_wp2_with fail
          go_roundg (gk - 1)
          case measure => omega
          case rel =>
            refine ⟨k + 1, _, by omega, by go_num, rfl, ?_, Lib.hid ?_, rfl⟩
            · exact HZ1.out _ (piece_more T note l)
            · exact HN2.out _ (piece_more T note l)
        have hl0I : (0 : Int) < (l.size : Int) := by omega
        obtain ⟨q, hq⟩ : ∃ q, l.size = q + 1 := ⟨l.size - 1, by omega⟩
        have hqs : q < l.size := by omega
        have hqI : (l.size : Int) - 1 = (q : Int) := by omega
        by_cases hlast : ((l[q]'hqs).toNat : Int) = 47
        · have u : (((l[q]'hqs).toNat : Int) == 47) = true := beq_iff_eq.2 hlast
          clear hlast
          go_wp2_with fail
          go_ret
          exact ⟨rfl, HB2.out⟩
        have u : (((l[q]'hqs).toNat : Int) == 47) = false := beq_eq_false_iff_ne.2 hlast
        clear hlast
        go_wp2_with fail
        go_roundg (gk - 1)
        case measure => omega
        case rel =>
          refine ⟨k + 1, _, by omega, by go_num, rfl, ?_, Lib.hid ?_, rfl⟩
          · exact HZ1.out _ (piece_more T note l)
          · exact HN2.out _ (piece_more T note l)
end Go.Proofs.YtkmachhfibcdlaaDoor
