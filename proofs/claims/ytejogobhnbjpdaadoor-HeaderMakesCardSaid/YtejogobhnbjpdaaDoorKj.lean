/- Walks: a text gone through; Lex, Notes. -/
import Derived.Test.YtejogobhnbjpdaaDoorKi
namespace Go.Proofs.YtejogobhnbjpdaaDoor
set_option linter.unusedVariables false
set_option linter.unusedSimpArgs false
open Go.ChangeShapes Go.WideShapes Go.ChangeAt Go.RowKit

/-- Where a text begins, behind a mark. -/
def skN (s : ByteArray) : Nat := if Lib.hasPrefix s.data.toList [239, 187, 191] then 3 else 0
theorem skN_le (s : ByteArray) : skN s ≤ s.size := by
  unfold skN
  split
  · rename_i h
    have h2 : pre s 0 [239, 187, 191] = true := by unfold pre; rw [List.drop_zero]; exact h
    have := ((pre_iff s 0 _ (Nat.zero_le _)).1 h2).1
    simpa using this
  · omega
theorem sk_v (s : ByteArray) (w : World) : Calls Tryd.prog 46 #[.string s] w fun e w' => e = .returned (.int .i64 (skN s : Nat)) ∧ w = w' :=
  (skip_any s w).mono (fun e w2 hh => ⟨by rw [hh.1]; unfold skN; split <;> rfl, hh.2⟩)
theorem mNext_len (s : ByteArray) (q : Nat) (m : List Tk) (T : Th) : (mNext s q m T).length ≤ m.length + 1 := by
  cases T <;> simp [mNext]
abbrev lexL (s : ByteArray) : List Tk := (lexT s (skN s) [] []).1
abbrev lexM (s : ByteArray) : List Tk := (lexT s (skN s) [] []).2
set_option maxRecDepth 100000 in
set_option maxHeartbeats 1000000 in
theorem through_any (s : ByteArray) (w : World) (hs : s.size ≤ 1048576) (hTab : Tabs w) :
    Calls Tryd.prog 29 #[.string s] w fun r w' => ∃ at_, r = .returned (.pointer (some ⟨w.heap.size, 0, none⟩)) ∧ Lx w.heap.size s at_ (lexL s) (lexM s) w' ∧ Below w.heap.size w w' := by
  have HK := Lib.hid (sk_v s w)
  have hk := skN_le s
  obtain ⟨k, hk0⟩ : ∃ k, k = skN s := ⟨_, rfl⟩
  rw [← hk0] at HK hk
  have HL : Hid (∀ q T M, lexT s k [] [] = lexT s q T M → lexL s = (lexT s q T M).1 ∧ lexM s = (lexT s q T M).2) := Lib.hid (fun q T M h => by unfold lexL lexM; rw [← hk0, h]; exact ⟨rfl, rfl⟩)
  clear hk0
  generalize lexL s = LL at *
  generalize lexM s = MM at *
  have HTab := Lib.hid hTab
  clear hTab
  obtain ⟨b, hb⟩ : ∃ b, b = w.heap.size := ⟨_, rfl⟩
  have h0 : Lx w.heap.size s k [] [] (w.alloc (.cells #[.string s, .int .i64 k, .slice none 0 0, .slice none 0 0] 53)) :=
    ⟨_, _, heap_alloc_new _ _, ⟨by simp [LF], .inl ⟨rfl, rfl⟩⟩, ⟨by simp [LF], .inl ⟨rfl, rfl⟩⟩, fun g h => by cases h⟩
  have H0 := Lib.hid h0
  have HB0 := Lib.hid ((Below.refl w.heap.size w).alloc (Nat.le_refl _) (.cells #[.string s, .int .i64 k, .slice none 0 0, .slice none 0 0] 53))
  clear h0 hb
  go_enter Tryd.func29, Tryd.ntmps29
  go_wp2_with fail
  refine HK.out.mono ?_
  rintro r w1 ⟨rfl, rfl⟩
  go_wp2_with fail
  go_loopg [] (s.size - k) (fun g wr => ∃ (q : Nat) (T M : List Tk), q + g = s.size ∧ Hid (Lx w.heap.size s q T M wr) ∧ Hid (lexT s k [] [] = lexT s q T M) ∧ T.length ≤ q ∧ M.length ≤ q ∧ Hid (Below w.heap.size w wr))
  case atStart => exact ⟨k, [], [], by omega, H0, Lib.hid rfl, Nat.zero_le _, Nat.zero_le _, HB0⟩
  case round =>
    obtain ⟨q, T, M, hqg, HX, HE, hTq, hMq, HB⟩ := hrel
    have c1 := HX.out.tx.c1
    by_cases hq : q < s.size
    · have hqI : (q : Int) < (s.size : Int) := by omega
      have HN := Lib.hid (next_any w.heap.size s q T M wr HX.out hq hs (by omega) (by omega) (tabs_below HTab.out HB.out))
      have HTE := Lib.hid (thing_ends hq)
      go_wp2_with fail
      refine HN.out.mono ?_
      rintro r w1 (⟨f, hth, rfl, hL, hB⟩ | ⟨hok, rfl, hL, hB⟩)
      · have hf := HTE.out.1 f hth
        have hfI : (0 : Int) ≤ (f : Int) := by omega
        have HE2 := Lib.hid (HL.out q T M HE.out)
        have HE3 := Lib.hid (lexT_bad hq hth T M)
        have HP := Lib.hid (put_any w.heap.size s q 7 f f T M w1 hL (Nat.le_refl f) (by omega) hs (by omega))
        have HB2 := Lib.hid (HB.out.trans hB)
        clear hth hL hB
        go_wp2_with fail
        refine HP.out.mono ?_
        rintro r w2 ⟨rfl, hL2, hB2⟩
        have HL2 := Lib.hid hL2
        have HB3 := Lib.hid (HB2.out.trans hB2)
        clear hL2 hB2
        go_wp2_with fail
        go_ret
        refine ⟨q, rfl, ?_, HB3.out⟩
        rw [HE2.out.1, HE2.out.2, HE3.out]
        have := HL2.out
        rw [ext_nil] at this
        exact this
      · have he := HTE.out.2 hok
        have HE2 := Lib.hid (HE.out.trans (lexT_step hq hok T M))
        have hl1 := (lNext_len s q T (thing s q)).2
        have hl2 := mNext_len s q M (thing s q)
        have HL2 := Lib.hid hL
        have HB2 := Lib.hid (HB.out.trans hB)
        obtain ⟨he1, he2, _⟩ := he
        clear hok hL hB HN HTE
        generalize (thing s q).en q = q2 at *
        generalize lNext s q T (thing s q) = T2 at *
        generalize mNext s q M (thing s q) = M2 at *
        go_wp2_with fail
        go_roundg (s.size - q2)
        case measure => omega
        case rel => exact ⟨q2, T2, M2, by omega, HL2, HE2, by omega, by omega, HB2⟩
    · have hqI : ¬ (q : Int) < (s.size : Int) := by omega
      have HE2 := Lib.hid (HL.out q T M HE.out)
      have HE3 := Lib.hid (lexT_out hq T M)
      have HF := Lib.hid (feed_any w.heap.size s q s.size T M wr HX.out (Nat.le_refl _) hs (by omega))
      have hfl := (feedL_len T s.size).2
      have HP := Lib.hid (fun w1 (h1 : Lx w.heap.size s q (feedL T s.size) M w1) => put_any w.heap.size s q 0 s.size s.size (feedL T s.size) M w1 h1 (Nat.le_refl _) (Nat.le_refl _) hs (by omega))
      go_wp2_with fail
      refine HF.out.mono ?_
      rintro r w1 ⟨rfl, hL, hB⟩
      have HLf := Lib.hid hL
      have HB2 := Lib.hid (HB.out.trans hB)
      clear hL hB
      go_wp2_with fail
      refine (HP.out _ HLf.out).mono ?_
      rintro r w2 ⟨rfl, hL2, hB2⟩
      have HL2 := Lib.hid hL2
      have HB3 := Lib.hid (HB2.out.trans hB2)
      clear hL2 hB2
      go_wp2_with fail
      go_ret
      refine ⟨q, rfl, ?_, HB3.out⟩
      rw [HE2.out.1, HE2.out.2, HE3.out]
      have := HL2.out
      rw [ext_nil] at this
      exact this
set_option maxRecDepth 100000 in
theorem lex_any (s : ByteArray) (w : World) (hs : s.size ≤ 1048576) (hTab : Tabs w) :
    Calls Tryd.prog 17 #[.string s] w fun r w' => ∃ v, r = .returned v ∧ LAt 3 tkV w' v (lexL s) ∧ Below w.heap.size w w' := by
  have HK := Lib.hid (through_any s w hs hTab)
  clear hTab
  go_enter Tryd.func17, Tryd.ntmps17
  go_wp2_with fail
  refine HK.out.mono ?_
  rintro r w1 ⟨at_, rfl, hL, hB⟩
  have HB := Lib.hid hB
  obtain ⟨tv, mv, c2, c3, hT, hM⟩ := hL.sl
  obtain ⟨p, cap, rfl, _⟩ := hT.shape
  have HT := Lib.hid hT
  clear hT hM hL hB c3
  go_wp2_with fail
  go_ret
  exact ⟨_, rfl, HT.out, HB.out⟩
set_option maxRecDepth 100000 in
theorem notes_any (s : ByteArray) (w : World) (hs : s.size ≤ 1048576) (hTab : Tabs w) :
    Calls Tryd.prog 18 #[.string s] w fun r w' => ∃ v, r = .returned v ∧ LAt 3 tkV w' v (lexM s) ∧ Below w.heap.size w w' := by
  have HK := Lib.hid (through_any s w hs hTab)
  clear hTab
  go_enter Tryd.func18, Tryd.ntmps18
  go_wp2_with fail
  refine HK.out.mono ?_
  rintro r w1 ⟨at_, rfl, hL, hB⟩
  have HB := Lib.hid hB
  obtain ⟨tv, mv, c2, c3, hT, hM⟩ := hL.sl
  obtain ⟨p, cap, rfl, _⟩ := hM.shape
  have HM := Lib.hid hM
  clear hT hM hL hB c2
  go_wp2_with fail
  go_ret
  exact ⟨_, rfl, HM.out, HB.out⟩
end Go.Proofs.YtejogobhnbjpdaaDoor
