/- Walks: what stands at a place is taken in, whatever it is. -/
import Derived.Test.YtejogobhnbjpdaaDoorKh
import Derived.Test.YtejogobhnbjpdaaDoorKf
import Derived.Test.YtejogobhnbjpdaaDoorKfb
import Derived.Test.YtejogobhnbjpdaaDoorKn
namespace Go.Proofs.YtejogobhnbjpdaaDoor
set_option linter.unusedVariables false
set_option linter.unusedSimpArgs false
open Go.ChangeShapes Go.WideShapes Go.ChangeAt Go.RowKit

theorem nextR_ok {b at_ : Nat} {s : ByteArray} {T M : List Tk} {t : Th} {w w' : World} (ht : thing s at_ = t) (hok : t.ok = true) (hL : Lx b s (t.en at_) (lNext s at_ T t) (mNext s at_ M t) w') (hB : Below b w w') : NextR b s at_ T M (thing s at_) w (.returned (.int .i64 (-1))) w' := by
  rw [ht]; exact .inr ⟨hok, rfl, hL, hB⟩
theorem nextR_bad {b at_ f : Nat} {s : ByteArray} {T M : List Tk} {w w' : World} (ht : thing s at_ = .bad f) (hL : Lx b s at_ T M w') (hB : Below b w w') : NextR b s at_ T M (thing s at_) w (.returned (.int .i64 f)) w' :=
  .inl ⟨f, ht, rfl, hL, hB⟩
theorem Lx.setZ {b at_ e : Nat} {s : ByteArray} {T M : List Tk} {w : World} (h : Lx b s at_ T M w) {z : Int} (hz : z = (e : Int)) : Lx b s e T M (w.setCell ⟨b, 1, none⟩ (.int .i64 z)) := by subst hz; exact h.setAt

set_option maxRecDepth 100000 in
set_option maxHeartbeats 4000000 in
theorem next_any (b : Nat) (s : ByteArray) (at_ : Nat) (T M : List Tk) (w : World) (h : Lx b s at_ T M w) (hq : at_ < s.size) (hs : s.size ≤ 1048576) (hT : T.length ≤ 16777216) (hM : M.length ≤ 16777216) (hTab : Tabs w) :
    Calls Tryd.prog 47 #[.pointer (some ⟨b, 0, none⟩)] w fun r w' => NextR b s at_ T M (thing s at_) w r w' := by
  have HX := Lib.hid h
  have hlt := h.lt
  have c0 := h.tx.c0
  have c1 := h.tx.c1
  have hqI : (at_ : Int) ≤ (s.size : Int) := by omega
  have hqN : at_ ≤ s.size := by omega
  have hr := runeAt_range s at_ hq
  have hrb := runeAt_bounds s at_
  have HR : Hid (∀ w1, Below w.heap.size w w1 → Calls Tryd.prog 61 #[.string s, .int .i64 at_] w1 fun e w' => e = .returned (.tuple #[.int .i32 (runeAt s at_).1, .int .i64 (runeAt s at_).2]) ∧ Below w.heap.size w w') :=
    Lib.hid (fun w1 h1 => (rune_in s at_ w1 hq (by omega) (tabs_below hTab h1)).mono (fun e w2 hh => ⟨hh.1, h1.trans (hh.2.mono h1.size)⟩))
  have HL0 := Lib.hid (fun w1 (h1 : Below w.heap.size w w1) => (by have e := (h1.cell (p := ⟨b, 0, none⟩) hlt).trans c0; simp [go_sem, e] : (loadVar 9 ⟨b, 0, none⟩).run Tryd.prog w1 = .ok (.string s) w1))
  have HL1 := Lib.hid (fun w1 (h1 : Below w.heap.size w w1) => (by have e := (h1.cell (p := ⟨b, 1, none⟩) hlt).trans c1; simp [go_sem, e] : (loadVar 3 ⟨b, 1, none⟩).run Tryd.prog w1 = .ok (.int .i64 at_) w1))
  obtain ⟨x, hx⟩ : ∃ x, x = s.extract at_ s.size := ⟨_, rfl⟩
  have HP1 : Hid (∀ w1, Calls Tryd.prog 52 #[.string x, .string ⟨#[47, 47]⟩] w1 fun e w' => e = .returned (.bool (pre s at_ [47, 47])) ∧ w' = w1) := Lib.hid (fun w1 => by rw [hx, ← drop_data]; exact Tryd.strings_HasPrefix (s.extract at_ s.size) ⟨#[47, 47]⟩ w1)
  have HP2 : Hid (∀ w1, Calls Tryd.prog 52 #[.string x, .string ⟨#[47, 42]⟩] w1 fun e w' => e = .returned (.bool (pre s at_ [47, 42])) ∧ w' = w1) := Lib.hid (fun w1 => by rw [hx, ← drop_data]; exact Tryd.strings_HasPrefix (s.extract at_ s.size) ⟨#[47, 42]⟩ w1)
  have HXL := Lib.hid (fun w1 (h1 : Below w.heap.size w w1) => h.below h1)
  have HTx := Lib.hid (fun w1 (h1 : Below w.heap.size w w1) => (h.below h1).tx)
  have HTb := Lib.hid (fun w1 (h1 : Below w.heap.size w w1) => tabs_below hTab h1)
  have Hth := Lib.hid (thing_eq s at_)
  have Hends := Lib.hid (thing_ends hq)
  have HrS := Lib.hid (rune_byte hq)
  have Hrone := Lib.hid (fun (c : Nat) (h0 : 0 < c) (h1 : c < 128) (hr : (runeAt s at_).1 = (c : Int)) => rune_one hq h0 h1 hr)
  have Hblk := Lib.hid (fun h => (blk_byt hq h).2)
  have HbN : w.heap.size ≥ b := Nat.le_of_lt hlt
  have HDG : Hid (∀ w1, Below w.heap.size w w1 → Calls Tryd.prog 70 #[.pointer (some ⟨b, 0, none⟩), .int .i64 (at_ + 1)] w1 fun e w' => e = .returned (.bool (digR (rn s (at_ + 1)).1)) ∧ Below w.heap.size w w') :=
    Lib.hid (fun w1 h1 => (digit70_any b s at_ (at_ + 1) w1 (HTx.out w1 h1) hs (tabs_below hTab h1)).mono (fun e w2 hh => ⟨hh.1, h1.trans (hh.2.mono h1.size)⟩))
  clear h hTab
  obtain ⟨r, hrr⟩ : ∃ r, r = (runeAt s at_).1 := ⟨_, rfl⟩
  obtain ⟨n, hnn⟩ : ∃ n, n = (runeAt s at_).2 := ⟨_, rfl⟩
  rw [← hrr, ← hnn] at HR
  rw [← hrr] at Hth Hrone hrb Hblk
  rw [← hnn] at hr Hrone Hblk
  have Hrr := Lib.hid hrr
  have Hnn := Lib.hid hnn
  clear hrr hnn
  obtain ⟨hn1, hn2⟩ := hr
  go_enter Tryd.func47, Tryd.ntmps47
  go_wp2_with fail
  refine wp_region_class (Below w.heap.size w) (by kernel_rfl) (by kernel_rfl) (Below.refl _ _).drew ?_
  repeat (go_big_quiet_step (first | (intro hh; with_reducible exact HR.out _ hh) | (intro _; rfl)))
  refine wpQuiet_load_at rfl 9 (.tmp 19) rfl ⟨b, 0, none⟩ rfl (.string s) HL0.out ?_
  simp only [Act.put, List.setIfInBounds_toArray, List.set_cons_succ, List.set_cons_zero]
  repeat (go_big_quiet_step (first | (intro hh; with_reducible exact HR.out _ hh) | (intro _; rfl)))
  refine wpQuiet_load_at rfl 3 (.tmp 23) rfl ⟨b, 1, none⟩ rfl (.int .i64 at_) HL1.out ?_
  simp only [Act.put, List.setIfInBounds_toArray, List.set_cons_succ, List.set_cons_zero]
  repeat (go_big_quiet_step (first | (intro hh; with_reducible exact HR.out _ hh) | (intro _; rfl)))
  refine wpQuiet_nil ?_
  intro wq hBq
  have HB1 := Lib.hid hBq
  have c0q := (HTx.out _ hBq).c0
  have c1q := (HTx.out _ hBq).c1
  clear hBq c0 c1
  go_wp2_with fail
  go_quiet (fail)
  rw [← hx]
  clear hx
  have HB := Lib.hid (below_drewN HB1.out nq)
  clear HB1 c0q c1q
  generalize wq.drewN nq = w0 at *
  have c1w := (HTx.out _ HB.out).c1
  by_cases t1 : r = 10
  · have Hth2 := Lib.hid (show thing s at_ = .lf by rw [Hth.out, if_pos t1])
    have hn : n = 1 := Hrone.out 10 (by omega) (by omega) t1
    clear hn1 hn2 hrb
    subst t1
    subst hn
    go_wp2_with fail
    refine (feed_any b s at_ at_ T M _ (HXL.out _ HB.out) hqN hs hT).mono ?_
    rintro r2 w2 ⟨rfl, hL, hB2⟩
    have HB2 := Lib.hid hB2
    clear hB2
    have c1'' := hL.tx.c1
    have f1 := hL.frz 1
    have HS := Lib.hid (hL.setZ (z := (at_ : Int) + 1) (e := at_ + 1) (by omega))
    have HBf := Lib.hid (((HB.out.mono HbN).trans HB2.out).trans (((Below.refl b _).setCell (p := ⟨b, 1, none⟩) (Nat.le_refl b) (.int .i64 ((at_ : Int) + 1)))))
    clear hL
    go_wp2_with fail
    go_ret
    exact nextR_ok Hth2.out rfl HS.out HBf.out
  have u1 : (r == 10) = false := beq_eq_false_iff_ne.2 t1
  have HBL := Lib.hid (fun w1 => blank_any r w1)
  by_cases t2 : blkR r = true
  · have Hth2 := Lib.hid (show thing s at_ = .blank by rw [Hth.out, if_neg t1, if_pos t2])
    have hn : n = 1 := Hblk.out t2
    rw [t2] at HBL
    clear hn1 hn2 hrb t2
    subst hn
    go_wp2_with fail
    refine (HBL.out _).mono ?_
    rintro r1 w1 ⟨rfl, rfl⟩
    have hL := HXL.out _ HB.out
    have c1'' := hL.tx.c1
    have f1 := hL.frz 1
    have HS := Lib.hid (hL.setZ (z := (at_ : Int) + 1) (e := at_ + 1) (by omega))
    have HBf := Lib.hid ((HB.out.mono HbN).trans (((Below.refl b _).setCell (p := ⟨b, 1, none⟩) (Nat.le_refl b) (.int .i64 ((at_ : Int) + 1)))))
    clear hL
    go_wp2_with fail
    go_ret
    exact nextR_ok Hth2.out rfl HS.out HBf.out
  have Ht2 := Lib.hid (show ¬ blkR r = true from t2)
  rw [Bool.eq_false_iff.2 t2] at HBL
  clear t2
  go_wp2_with fail
  refine (HBL.out _).mono ?_
  rintro r1 w1 ⟨rfl, rfl⟩
  clear HBL
  by_cases t3 : pre s at_ [47, 47] = true
  · rw [t3] at HP1
    go_wp2_with fail
    refine (HP1.out _).mono ?_
    rintro r1 w1 ⟨rfl, rfl⟩
    cases hl : lineR s at_ with
    | inl f =>
      have Hth2 := Lib.hid (show thing s at_ = .bad f by rw [Hth.out, if_neg t1, if_neg Ht2.out, if_pos t3, hl]; rfl)
      have HK : Hid (∀ w1, Below w.heap.size w w1 → Calls Tryd.prog 63 #[.pointer (some ⟨b, 0, none⟩)] w1 fun e' w' => e' = .returned (.tuple #[.int .i64 0, .int .i64 (f : Nat)]) ∧ Below w.heap.size w w') :=
        Lib.hid (fun w1 h1 => (line_any b s at_ w1 (HTx.out w1 h1) hs hqN (HTb.out w1 h1)).mono (fun e2 w2 hh => ⟨by rw [hh.1, hl]; rfl, h1.trans (hh.2.mono h1.size)⟩))
      clear hl
      go_wp2_with fail
      refine (HK.out _ HB.out).mono ?_
      rintro r1 w1 ⟨rfl, hB1⟩
      have HB := Lib.hid hB1
      clear hB1
      go_wp2_with fail
      refine (note_bad b f _).mono ?_
      rintro r2 w2 ⟨rfl, rfl⟩
      go_wp2_with fail
      go_ret
      exact nextR_bad Hth2.out (HXL.out _ HB.out) (HB.out.mono HbN)
    | inr e =>
      have Hth2 := Lib.hid (show thing s at_ = .note e by rw [Hth.out, if_neg t1, if_neg Ht2.out, if_pos t3, hl]; rfl)
      have hbe : at_ ≤ e ∧ e ≤ s.size := (line_ge s _ at_ (Nat.le_refl _) hqN).1 e hl
      have HK : Hid (∀ w1, Below w.heap.size w w1 → Calls Tryd.prog 63 #[.pointer (some ⟨b, 0, none⟩)] w1 fun e' w' => e' = .returned (.tuple #[.int .i64 (e : Nat), .int .i64 (-1)]) ∧ Below w.heap.size w w') :=
        Lib.hid (fun w1 h1 => (line_any b s at_ w1 (HTx.out w1 h1) hs hqN (HTb.out w1 h1)).mono (fun e2 w2 hh => ⟨by rw [hh.1, hl]; rfl, h1.trans (hh.2.mono h1.size)⟩))
      clear hl
      go_wp2_with fail
      refine (HK.out _ HB.out).mono ?_
      rintro r1 w1 ⟨rfl, hB1⟩
      have HB := Lib.hid hB1
      clear hB1
      go_wp2_with fail
      refine (note_any b s at_ e T M _ (HXL.out _ HB.out) hbe.1 hbe.2 hs hT hM).mono ?_
      rintro r2 w2 ⟨rfl, hL, hB2⟩
      have HL := Lib.hid hL
      have HBf := Lib.hid ((HB.out.mono HbN).trans hB2)
      clear hL hB2
      go_wp2_with fail
      go_ret
      exact nextR_ok Hth2.out rfl HL.out HBf.out
  have Ht3 := Lib.hid (show ¬ pre s at_ [47, 47] = true from t3)
  rw [Bool.eq_false_iff.2 t3] at HP1
  clear t3
  go_wp2_with fail
  refine (HP1.out _).mono ?_
  rintro r1 w1 ⟨rfl, rfl⟩
  by_cases t4 : pre s at_ [47, 42] = true
  · rw [t4] at HP2
    have hp2 := ((pre2 s at_ 47 42 hqN).1 t4).1
    go_wp2_with fail
    refine (HP2.out _).mono ?_
    rintro r1 w1 ⟨rfl, rfl⟩
    cases hl : closedR s [42, 47] at_ (at_ + 2) with
    | inl f =>
      have Hth2 := Lib.hid (show thing s at_ = .bad f by rw [Hth.out, if_neg t1, if_neg Ht2.out, if_neg Ht3.out, if_pos t4, hl]; rfl)
      have HK : Hid (∀ w1, Below w.heap.size w w1 → Calls Tryd.prog 65 #[.pointer (some ⟨b, 0, none⟩), .string ⟨#[47, 42]⟩, .string ⟨#[42, 47]⟩] w1 fun e' w' => e' = .returned (.tuple #[.int .i64 0, .int .i64 (f : Nat)]) ∧ Below w.heap.size w w') :=
        Lib.hid (fun w1 h1 => (closed_any b s ⟨#[47, 42]⟩ ⟨#[42, 47]⟩ at_ w1 (HTx.out w1 h1) hs (by decide) (by decide) hp2 (HTb.out w1 h1)).mono (fun e2 w2 hh => ⟨by rw [hh.1]; show Ending.returned (rsV (closedR s [42, 47] at_ (at_ + 2))) = _; rw [hl]; rfl, h1.trans (hh.2.mono h1.size)⟩))
      clear hl
      go_wp2_with fail
      refine (HK.out _ HB.out).mono ?_
      rintro r1 w1 ⟨rfl, hB1⟩
      have HB := Lib.hid hB1
      clear hB1
      go_wp2_with fail
      refine (note_bad b f _).mono ?_
      rintro r2 w2 ⟨rfl, rfl⟩
      go_wp2_with fail
      go_ret
      exact nextR_bad Hth2.out (HXL.out _ HB.out) (HB.out.mono HbN)
    | inr e =>
      have Hth2 := Lib.hid (show thing s at_ = .note e by rw [Hth.out, if_neg t1, if_neg Ht2.out, if_neg Ht3.out, if_pos t4, hl]; rfl)
      have hbe : at_ ≤ e ∧ e ≤ s.size := by have := (closed_ge s [42, 47] at_ _ (at_ + 2) (Nat.le_refl _)).1 e hl; omega
      have HK : Hid (∀ w1, Below w.heap.size w w1 → Calls Tryd.prog 65 #[.pointer (some ⟨b, 0, none⟩), .string ⟨#[47, 42]⟩, .string ⟨#[42, 47]⟩] w1 fun e' w' => e' = .returned (.tuple #[.int .i64 (e : Nat), .int .i64 (-1)]) ∧ Below w.heap.size w w') :=
        Lib.hid (fun w1 h1 => (closed_any b s ⟨#[47, 42]⟩ ⟨#[42, 47]⟩ at_ w1 (HTx.out w1 h1) hs (by decide) (by decide) hp2 (HTb.out w1 h1)).mono (fun e2 w2 hh => ⟨by rw [hh.1]; show Ending.returned (rsV (closedR s [42, 47] at_ (at_ + 2))) = _; rw [hl]; rfl, h1.trans (hh.2.mono h1.size)⟩))
      clear hl
      go_wp2_with fail
      refine (HK.out _ HB.out).mono ?_
      rintro r1 w1 ⟨rfl, hB1⟩
      have HB := Lib.hid hB1
      clear hB1
      go_wp2_with fail
      refine (note_any b s at_ e T M _ (HXL.out _ HB.out) hbe.1 hbe.2 hs hT hM).mono ?_
      rintro r2 w2 ⟨rfl, hL, hB2⟩
      have HL := Lib.hid hL
      have HBf := Lib.hid ((HB.out.mono HbN).trans hB2)
      clear hL hB2
      go_wp2_with fail
      go_ret
      exact nextR_ok Hth2.out rfl HL.out HBf.out
  have Ht4 := Lib.hid (show ¬ pre s at_ [47, 42] = true from t4)
  rw [Bool.eq_false_iff.2 t4] at HP2
  clear t4
  go_wp2_with fail
  refine (HP2.out _).mono ?_
  rintro r1 w1 ⟨rfl, rfl⟩
  clear HP1 HP2
  have HLT := Lib.hid (fun w1 => letter_any r w1)
  by_cases t5 : letR r = true
  · have Hth2 := Lib.hid (show thing s at_ = .tok 1 (identE s at_) by rw [Hth.out, if_neg t1, if_neg Ht2.out, if_neg Ht3.out, if_neg Ht4.out, if_pos t5])
    rw [t5] at HLT
    clear t5
    have hbe := identE_ge s _ at_ (Nat.le_refl _)
    go_wp2_with fail
    refine (HLT.out _).mono ?_
    rintro r1 w1 ⟨rfl, rfl⟩
    have HK : Hid (∀ w1, Below w.heap.size w w1 → Calls Tryd.prog 68 #[.pointer (some ⟨b, 0, none⟩)] w1 fun e' w' => e' = .returned (.int .i64 (identE s at_ : Nat)) ∧ Below w.heap.size w w') :=
      Lib.hid (fun w1 h1 => (ident_any b s at_ w1 (HTx.out w1 h1) hs hqN (HTb.out w1 h1)).mono (fun e2 w2 hh => ⟨hh.1, h1.trans (hh.2.mono h1.size)⟩))
    go_wp2_with fail
    refine (HK.out _ HB.out).mono ?_
    rintro r1 w1 ⟨rfl, hB1⟩
    have HB := Lib.hid hB1
    clear hB1
    go_wp2_with fail
    refine (take_any b s at_ 1 (identE s at_) T M _ (HXL.out _ HB.out) hbe.1 (hbe.2 hqN) hs hT).mono ?_
    rintro r2 w2 ⟨rfl, hL, hB2⟩
    have HL := Lib.hid hL
    have HBf := Lib.hid ((HB.out.mono HbN).trans hB2)
    clear hL hB2
    go_wp2_with fail
    go_ret
    exact nextR_ok Hth2.out rfl HL.out HBf.out
  have Ht5 := Lib.hid (show ¬ letR r = true from t5)
  rw [Bool.eq_false_iff.2 t5] at HLT
  clear t5
  go_wp2_with fail
  refine (HLT.out _).mono ?_
  rintro r1 w1 ⟨rfl, rfl⟩
  clear HLT
  have HDT := Lib.hid (fun w1 => digit_any r w1)
  have HNth := Lib.hid (show digTest s at_ r = true → thing s at_ = .tok 2 (numE s (hexP s at_) (at_ + 1)) from fun t6 => by rw [Hth.out, if_neg t1, if_neg Ht2.out, if_neg Ht3.out, if_neg Ht4.out, if_neg Ht5.out, if_pos t6])
  by_cases t6 : digR r = true
  · have Hth2 := Lib.hid (HNth.out (by unfold digTest; rw [t6]; rfl))
    rw [t6] at HDT
    clear t6
    go_wp2_with fail
    refine (HDT.out _).mono ?_
    rintro r1 w1 ⟨rfl, rfl⟩
    have HK : Hid (∀ w1, Below w.heap.size w w1 → Calls Tryd.prog 71 #[.pointer (some ⟨b, 0, none⟩)] w1 fun e' w' => e' = .returned (.int .i64 (numE s (hexP s at_) (at_ + 1) : Nat)) ∧ Below w.heap.size w w') :=
      Lib.hid (fun w1 h1 => (number_any b s at_ w1 (HTx.out w1 h1) hs hq).mono (fun e2 w2 hh => ⟨hh.1, h1.trans (hh.2.mono h1.size)⟩))
    have hbe := numE_ge s (hexP s at_) _ (at_ + 1) (Nat.le_refl _)
    have hbe1 : at_ ≤ numE s (hexP s at_) (at_ + 1) := by omega
    have hbe2 := hbe.2 hq
    clear hbe
    generalize numE s (hexP s at_) (at_ + 1) = e at *
    go_wp2_with fail
    refine (HK.out _ HB.out).mono ?_
    rintro r1 w1 ⟨rfl, hB1⟩
    have HB := Lib.hid hB1
    clear hB1
    go_wp2_with fail
    refine (take_any b s at_ 2 (e) T M _ (HXL.out _ HB.out) hbe1 hbe2 hs hT).mono ?_
    rintro r2 w2 ⟨rfl, hL, hB2⟩
    have HL := Lib.hid hL
    have HBf := Lib.hid ((HB.out.mono HbN).trans hB2)
    clear hL hB2
    go_wp2_with fail
    go_ret
    exact nextR_ok Hth2.out rfl HL.out HBf.out
  have t6f := Bool.eq_false_iff.2 t6
  rw [t6f] at HDT
  go_wp2_with fail
  refine (HDT.out _).mono ?_
  rintro r1 w1 ⟨rfl, rfl⟩
  by_cases t7 : r = 46
  · cases hdg : digR (rn s (at_ + 1)).1 with
    | true =>
      have Hth2 := Lib.hid (HNth.out (by unfold digTest; rw [hdg, t7]; rfl))
      rw [hdg] at HDG
      clear hdg t6 t6f HDT HNth
      subst t7
      go_wp2_with fail
      refine (HDG.out _ HB.out).mono ?_
      rintro r1 w1 ⟨rfl, hB1⟩
      have HB := Lib.hid hB1
      clear hB1
      have HK : Hid (∀ w1, Below w.heap.size w w1 → Calls Tryd.prog 71 #[.pointer (some ⟨b, 0, none⟩)] w1 fun e' w' => e' = .returned (.int .i64 (numE s (hexP s at_) (at_ + 1) : Nat)) ∧ Below w.heap.size w w') :=
        Lib.hid (fun w1 h1 => (number_any b s at_ w1 (HTx.out w1 h1) hs hq).mono (fun e2 w2 hh => ⟨hh.1, h1.trans (hh.2.mono h1.size)⟩))
      have hbe := numE_ge s (hexP s at_) _ (at_ + 1) (Nat.le_refl _)
      have hbe1 : at_ ≤ numE s (hexP s at_) (at_ + 1) := by omega
      have hbe2 := hbe.2 hq
      clear hbe
      generalize numE s (hexP s at_) (at_ + 1) = e at *
      go_wp2_with fail
      refine (HK.out _ HB.out).mono ?_
      rintro r1 w1 ⟨rfl, hB1⟩
      have HB := Lib.hid hB1
      clear hB1
      go_wp2_with fail
      refine (take_any b s at_ 2 (e) T M _ (HXL.out _ HB.out) hbe1 hbe2 hs hT).mono ?_
      rintro r2 w2 ⟨rfl, hL, hB2⟩
      have HL := Lib.hid hL
      have HBf := Lib.hid ((HB.out.mono HbN).trans hB2)
      clear hL hB2
      go_wp2_with fail
      go_ret
      exact nextR_ok Hth2.out rfl HL.out HBf.out
    | false =>
      have hdt : ¬ digTest s at_ r = true := by unfold digTest; rw [t6f, hdg]; simp
      have Hth2 := Lib.hid (show thing s at_ = (if signN s at_ = 0 then .bad at_ else .tok 5 (at_ + signN s at_)) by rw [Hth.out, if_neg t1, if_neg Ht2.out, if_neg Ht3.out, if_neg Ht4.out, if_neg Ht5.out, if_neg hdt, if_neg (by rw [t7]; decide), if_neg (by rw [t7]; decide), if_neg (by rw [t7]; decide), if_neg (by rw [t7]; decide)])
      rw [hdg] at HDG
      clear hdg hdt t6 t6f HDT HNth
      subst t7
      go_wp2_with fail
      refine (HDG.out _ HB.out).mono ?_
      rintro r1 w1 ⟨rfl, hB1⟩
      have HB := Lib.hid hB1
      clear hB1
      have hSG := sign_go b s at_ T M _ (HXL.out _ HB.out) hq hs hT
      rw [← Hth2.out] at hSG
      have HSG := Lib.hid hSG
      clear hSG
      go_wp2_with fail
      refine HSG.out.mono ?_
      rintro r2 w2 hNR
      have HNR := Lib.hid hNR
      clear hNR
      rcases HNR.out with ⟨f, g1, g2, g3, g4⟩ | ⟨g1, g2, g3, g4⟩
      · subst g2
        have G1 := Lib.hid g1
        have G3 := Lib.hid g3
        have G4 := Lib.hid ((HB.out.mono HbN).trans g4)
        clear g1 g3 g4
        go_wp2_with fail
        go_ret
        exact .inl ⟨f, G1.out, rfl, G3.out, G4.out⟩
      · subst g2
        have G1 := Lib.hid g1
        have G3 := Lib.hid g3
        have G4 := Lib.hid ((HB.out.mono HbN).trans g4)
        clear g1 g3 g4
        go_wp2_with fail
        go_ret
        exact .inr ⟨G1.out, rfl, G3.out, G4.out⟩
  have u7 : (r == 46) = false := beq_eq_false_iff_ne.2 t7
  have hdt : ¬ digTest s at_ r = true := by unfold digTest; rw [t6f, decide_eq_false t7]; simp
  have Ht6 := Lib.hid hdt
  clear t6 t6f HDT HNth hdt HDG
  by_cases t8 : r = 39
  · subst t8
    clear hrb
    cases hl : quotR s 39 at_ (at_ + 1) false with
    | inl f =>
      have Hth2 := Lib.hid (show thing s at_ = .bad f by rw [Hth.out, if_neg t1, if_neg Ht2.out, if_neg Ht3.out, if_neg Ht4.out, if_neg Ht5.out, if_neg Ht6.out, if_pos rfl, hl]; rfl)
      have HK : Hid (∀ w1, Below w.heap.size w w1 → Calls Tryd.prog 72 #[.pointer (some ⟨b, 0, none⟩), .int .i32 39] w1 fun e' w' => e' = .returned (.tuple #[.int .i64 0, .int .i64 (f : Nat)]) ∧ Below w.heap.size w w') :=
        Lib.hid (fun w1 h1 => (quoted39_any b s at_ w1 (HTx.out w1 h1) hs hq (HTb.out w1 h1)).mono (fun e2 w2 hh => ⟨by rw [hh.1, hl]; rfl, h1.trans (hh.2.mono h1.size)⟩))
      clear hl
      go_wp2_with fail
      refine (HK.out _ HB.out).mono ?_
      rintro r1 w1 ⟨rfl, hB1⟩
      have HB := Lib.hid hB1
      clear hB1
      go_wp2_with fail
      refine (take_bad b 3 f 0 _).mono ?_
      rintro r2 w2 ⟨rfl, rfl⟩
      go_wp2_with fail
      go_ret
      exact nextR_bad Hth2.out (HXL.out _ HB.out) (HB.out.mono HbN)
    | inr e =>
      have Hth2 := Lib.hid (show thing s at_ = .tok 3 e by rw [Hth.out, if_neg t1, if_neg Ht2.out, if_neg Ht3.out, if_neg Ht4.out, if_neg Ht5.out, if_neg Ht6.out, if_pos rfl, hl]; rfl)
      have hbe : at_ ≤ e ∧ e ≤ s.size := by have := (quot_ge s 39 at_ _ (at_ + 1) false (Nat.le_refl _)).1 e hl; omega
      have HK : Hid (∀ w1, Below w.heap.size w w1 → Calls Tryd.prog 72 #[.pointer (some ⟨b, 0, none⟩), .int .i32 39] w1 fun e' w' => e' = .returned (.tuple #[.int .i64 (e : Nat), .int .i64 (-1)]) ∧ Below w.heap.size w w') :=
        Lib.hid (fun w1 h1 => (quoted39_any b s at_ w1 (HTx.out w1 h1) hs hq (HTb.out w1 h1)).mono (fun e2 w2 hh => ⟨by rw [hh.1, hl]; rfl, h1.trans (hh.2.mono h1.size)⟩))
      clear hl
      go_wp2_with fail
      refine (HK.out _ HB.out).mono ?_
      rintro r1 w1 ⟨rfl, hB1⟩
      have HB := Lib.hid hB1
      clear hB1
      go_wp2_with fail
      refine (take_any b s at_ 3 (e) T M _ (HXL.out _ HB.out) hbe.1 hbe.2 hs hT).mono ?_
      rintro r2 w2 ⟨rfl, hL, hB2⟩
      have HL := Lib.hid hL
      have HBf := Lib.hid ((HB.out.mono HbN).trans hB2)
      clear hL hB2
      go_wp2_with fail
      go_ret
      exact nextR_ok Hth2.out rfl HL.out HBf.out
  have u8 : (r == 39) = false := beq_eq_false_iff_ne.2 t8
  by_cases t9 : r = 34
  · subst t9
    clear hrb
    cases hl : quotR s 34 at_ (at_ + 1) false with
    | inl f =>
      have Hth2 := Lib.hid (show thing s at_ = .bad f by rw [Hth.out, if_neg t1, if_neg Ht2.out, if_neg Ht3.out, if_neg Ht4.out, if_neg Ht5.out, if_neg Ht6.out, if_neg t8, if_pos rfl, hl]; rfl)
      have HK : Hid (∀ w1, Below w.heap.size w w1 → Calls Tryd.prog 72 #[.pointer (some ⟨b, 0, none⟩), .int .i32 34] w1 fun e' w' => e' = .returned (.tuple #[.int .i64 0, .int .i64 (f : Nat)]) ∧ Below w.heap.size w w') :=
        Lib.hid (fun w1 h1 => (quoted34_any b s at_ w1 (HTx.out w1 h1) hs hq (HTb.out w1 h1)).mono (fun e2 w2 hh => ⟨by rw [hh.1, hl]; rfl, h1.trans (hh.2.mono h1.size)⟩))
      clear hl
      go_wp2_with fail
      refine (HK.out _ HB.out).mono ?_
      rintro r1 w1 ⟨rfl, hB1⟩
      have HB := Lib.hid hB1
      clear hB1
      go_wp2_with fail
      refine (take_bad b 4 f 0 _).mono ?_
      rintro r2 w2 ⟨rfl, rfl⟩
      go_wp2_with fail
      go_ret
      exact nextR_bad Hth2.out (HXL.out _ HB.out) (HB.out.mono HbN)
    | inr e =>
      have Hth2 := Lib.hid (show thing s at_ = .tok 4 e by rw [Hth.out, if_neg t1, if_neg Ht2.out, if_neg Ht3.out, if_neg Ht4.out, if_neg Ht5.out, if_neg Ht6.out, if_neg t8, if_pos rfl, hl]; rfl)
      have hbe : at_ ≤ e ∧ e ≤ s.size := by have := (quot_ge s 34 at_ _ (at_ + 1) false (Nat.le_refl _)).1 e hl; omega
      have HK : Hid (∀ w1, Below w.heap.size w w1 → Calls Tryd.prog 72 #[.pointer (some ⟨b, 0, none⟩), .int .i32 34] w1 fun e' w' => e' = .returned (.tuple #[.int .i64 (e : Nat), .int .i64 (-1)]) ∧ Below w.heap.size w w') :=
        Lib.hid (fun w1 h1 => (quoted34_any b s at_ w1 (HTx.out w1 h1) hs hq (HTb.out w1 h1)).mono (fun e2 w2 hh => ⟨by rw [hh.1, hl]; rfl, h1.trans (hh.2.mono h1.size)⟩))
      clear hl
      go_wp2_with fail
      refine (HK.out _ HB.out).mono ?_
      rintro r1 w1 ⟨rfl, hB1⟩
      have HB := Lib.hid hB1
      clear hB1
      go_wp2_with fail
      refine (take_any b s at_ 4 (e) T M _ (HXL.out _ HB.out) hbe.1 hbe.2 hs hT).mono ?_
      rintro r2 w2 ⟨rfl, hL, hB2⟩
      have HL := Lib.hid hL
      have HBf := Lib.hid ((HB.out.mono HbN).trans hB2)
      clear hL hB2
      go_wp2_with fail
      go_ret
      exact nextR_ok Hth2.out rfl HL.out HBf.out
  have u9 : (r == 34) = false := beq_eq_false_iff_ne.2 t9
  by_cases t10 : r = 96
  · subst t10
    clear hrb
    cases hl : closedR s [96] at_ (at_ + 1) with
    | inl f =>
      have Hth2 := Lib.hid (show thing s at_ = .bad f by rw [Hth.out, if_neg t1, if_neg Ht2.out, if_neg Ht3.out, if_neg Ht4.out, if_neg Ht5.out, if_neg Ht6.out, if_neg t8, if_neg t9, if_pos rfl, hl]; rfl)
      have HK : Hid (∀ w1, Below w.heap.size w w1 → Calls Tryd.prog 65 #[.pointer (some ⟨b, 0, none⟩), .string ⟨#[96]⟩, .string ⟨#[96]⟩] w1 fun e' w' => e' = .returned (.tuple #[.int .i64 0, .int .i64 (f : Nat)]) ∧ Below w.heap.size w w') :=
        Lib.hid (fun w1 h1 => (closed_any b s ⟨#[96]⟩ ⟨#[96]⟩ at_ w1 (HTx.out w1 h1) hs (by decide) (by decide) hq (HTb.out w1 h1)).mono (fun e2 w2 hh => ⟨by rw [hh.1]; show Ending.returned (rsV (closedR s [96] at_ (at_ + 1))) = _; rw [hl]; rfl, h1.trans (hh.2.mono h1.size)⟩))
      clear hl
      go_wp2_with fail
      refine (HK.out _ HB.out).mono ?_
      rintro r1 w1 ⟨rfl, hB1⟩
      have HB := Lib.hid hB1
      clear hB1
      go_wp2_with fail
      refine (take_bad b 4 f 0 _).mono ?_
      rintro r2 w2 ⟨rfl, rfl⟩
      go_wp2_with fail
      go_ret
      exact nextR_bad Hth2.out (HXL.out _ HB.out) (HB.out.mono HbN)
    | inr e =>
      have Hth2 := Lib.hid (show thing s at_ = .tok 4 e by rw [Hth.out, if_neg t1, if_neg Ht2.out, if_neg Ht3.out, if_neg Ht4.out, if_neg Ht5.out, if_neg Ht6.out, if_neg t8, if_neg t9, if_pos rfl, hl]; rfl)
      have hbe : at_ ≤ e ∧ e ≤ s.size := by have := (closed_ge s [96] at_ _ (at_ + 1) (Nat.le_refl _)).1 e hl; omega
      have HK : Hid (∀ w1, Below w.heap.size w w1 → Calls Tryd.prog 65 #[.pointer (some ⟨b, 0, none⟩), .string ⟨#[96]⟩, .string ⟨#[96]⟩] w1 fun e' w' => e' = .returned (.tuple #[.int .i64 (e : Nat), .int .i64 (-1)]) ∧ Below w.heap.size w w') :=
        Lib.hid (fun w1 h1 => (closed_any b s ⟨#[96]⟩ ⟨#[96]⟩ at_ w1 (HTx.out w1 h1) hs (by decide) (by decide) hq (HTb.out w1 h1)).mono (fun e2 w2 hh => ⟨by rw [hh.1]; show Ending.returned (rsV (closedR s [96] at_ (at_ + 1))) = _; rw [hl]; rfl, h1.trans (hh.2.mono h1.size)⟩))
      clear hl
      go_wp2_with fail
      refine (HK.out _ HB.out).mono ?_
      rintro r1 w1 ⟨rfl, hB1⟩
      have HB := Lib.hid hB1
      clear hB1
      go_wp2_with fail
      refine (take_any b s at_ 4 (e) T M _ (HXL.out _ HB.out) hbe.1 hbe.2 hs hT).mono ?_
      rintro r2 w2 ⟨rfl, hL, hB2⟩
      have HL := Lib.hid hL
      have HBf := Lib.hid ((HB.out.mono HbN).trans hB2)
      clear hL hB2
      go_wp2_with fail
      go_ret
      exact nextR_ok Hth2.out rfl HL.out HBf.out
  have u10 : (r == 96) = false := beq_eq_false_iff_ne.2 t10
  by_cases t11 : r = 59
  · have Hth2 := Lib.hid (show thing s at_ = .tok 6 (at_ + 1) by rw [Hth.out, if_neg t1, if_neg Ht2.out, if_neg Ht3.out, if_neg Ht4.out, if_neg Ht5.out, if_neg Ht6.out, if_neg t8, if_neg t9, if_neg t10, if_pos t11])
    have hn : n = 1 := Hrone.out 59 (by omega) (by omega) t11
    clear hn1 hn2 hrb
    subst t11
    subst hn
    have ecast : ((at_ + 1 : Nat) : Int) = (at_ : Int) + 1 := by omega
    have HTK := Lib.hid (fun w1 (h1 : Lx b s at_ T M w1) => take_any b s at_ 6 (at_ + 1) T M w1 h1 (by omega) hq hs hT)
    rw [ecast] at HTK
    clear ecast
    go_wp2_with fail
    refine (HTK.out _ (HXL.out _ HB.out)).mono ?_
    rintro r2 w2 ⟨rfl, hL, hB2⟩
    have HL := Lib.hid hL
    have HBf := Lib.hid ((HB.out.mono HbN).trans hB2)
    clear hL hB2
    go_wp2_with fail
    go_ret
    exact nextR_ok Hth2.out rfl HL.out HBf.out
  have u11 : (r == 59) = false := beq_eq_false_iff_ne.2 t11
  have Hth2 := Lib.hid (show thing s at_ = (if signN s at_ = 0 then .bad at_ else .tok 5 (at_ + signN s at_)) by rw [Hth.out, if_neg t1, if_neg Ht2.out, if_neg Ht3.out, if_neg Ht4.out, if_neg Ht5.out, if_neg Ht6.out, if_neg t8, if_neg t9, if_neg t10, if_neg t11])
  clear t1 t7 t8 t9 t10 t11
  have hSG := sign_go b s at_ T M _ (HXL.out _ HB.out) hq hs hT
  rw [← Hth2.out] at hSG
  have HSG := Lib.hid hSG
  clear hSG
  go_wp2_with fail
  refine HSG.out.mono ?_
  rintro r2 w2 hNR
  have HNR := Lib.hid hNR
  clear hNR
  rcases HNR.out with ⟨f, g1, g2, g3, g4⟩ | ⟨g1, g2, g3, g4⟩
  · subst g2
    have G1 := Lib.hid g1
    have G3 := Lib.hid g3
    have G4 := Lib.hid ((HB.out.mono HbN).trans g4)
    clear g1 g3 g4
    go_wp2_with fail
    go_ret
    exact .inl ⟨f, G1.out, rfl, G3.out, G4.out⟩
  · subst g2
    have G1 := Lib.hid g1
    have G3 := Lib.hid g3
    have G4 := Lib.hid ((HB.out.mono HbN).trans g4)
    clear g1 g3 g4
    go_wp2_with fail
    go_ret
    exact .inr ⟨G1.out, rfl, G3.out, G4.out⟩
end Go.Proofs.YtejogobhnbjpdaaDoor
