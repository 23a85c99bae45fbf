/- Walks: the reader's inner, not, ands, ors; the recursion closed. -/
import Derived.Test.YtpibehfmbmincaaGreatDoorWf
namespace Go.Proofs.YtpibehfmbmincaaGreatDoor
set_option linter.unusedVariables false
open Go.ChangeShapes Go.WideShapes Go.ChangeAt Go.RowKit

theorem lvl_room : ∀ (n : Nat) (L : Lv) (s t : St), lvl n L s = .ok t → t.parts.length + t.rest.length ≤ s.parts.length + s.rest.length := by
  intro n
  induction n with
  | zero => intro L s t h; cases h
  | succ n ih =>
    intro L s t h
    cases L with
    | ors =>
      simp only [lvl] at h
      cases ha : lvl n .ands s with
      | err e => rw [ha] at h; cases h
      | ok u => rw [ha] at h; exact Nat.le_trans (ih _ _ _ h) (ih _ _ _ ha)
    | ands =>
      simp only [lvl] at h
      cases ha : lvl n .nots s with
      | err e => rw [ha] at h; cases h
      | ok u => rw [ha] at h; exact Nat.le_trans (ih _ _ _ h) (ih _ _ _ ha)
    | orsT =>
      simp only [lvl] at h
      cases hs : isS [124, 124] s.rest with
      | mk b r =>
        rw [hs] at h
        cases b with
        | false => cases h; have := isS_len hs; simp only; omega
        | true =>
          simp only at h
          have hr := isS_true hs (by decide)
          simp only [List.length_cons, List.length_nil] at hr
          cases ha : lvl n .ands { s with rest := r } with
          | err e => rw [ha] at h; cases h
          | ok u =>
            rw [ha] at h
            have e := ih .ands { s with rest := r } u ha
            have e2 := ih _ _ _ h
            simp only [List.length_append, List.length_singleton] at e e2
            omega
    | andsT =>
      simp only [lvl] at h
      cases hs : isS [38, 38] s.rest with
      | mk b r =>
        rw [hs] at h
        cases b with
        | false => cases h; have := isS_len hs; simp only; omega
        | true =>
          simp only at h
          have hr := isS_true hs (by decide)
          simp only [List.length_cons, List.length_nil] at hr
          cases ha : lvl n .nots { s with rest := r } with
          | err e => rw [ha] at h; cases h
          | ok u =>
            rw [ha] at h
            have e := ih .nots { s with rest := r } u ha
            have e2 := ih _ _ _ h
            simp only [List.length_append, List.length_singleton] at e e2
            omega
    | nots =>
      simp only [lvl] at h
      cases hs : isS [33] s.rest with
      | mk b r =>
        rw [hs] at h
        cases b with
        | false => have e := ih .part { s with rest := r } t h; have := isS_len hs; simp only at e; omega
        | true =>
          simp only at h
          have hr := isS_true hs (by decide)
          simp only [List.length_cons, List.length_nil] at hr
          cases ha : lvl n .part { s with rest := r } with
          | err e => rw [ha] at h; cases h
          | ok u =>
            rw [ha] at h
            cases h
            have e := ih .part { s with rest := r } u ha
            simp only [List.length_append, List.length_singleton] at e ⊢
            omega
    | part =>
      simp only [lvl] at h
      cases hs : isS [40] s.rest with
      | mk b r =>
        have hr := isS_len hs
        rw [hs] at h
        cases b with
        | true => have e := ih .inner { s with rest := r } t h; simp only at e; omega
        | false =>
          simp only at h
          split at h
          · cases h
          · rename_i hne
            cases h
            have h1 : 0 < (r.takeWhile tagC).length := List.length_pos_iff.2 hne
            have h2 := endN_le r
            unfold endN at h2
            simp only [List.length_append, List.length_singleton, List.length_drop]
            omega
    | inner =>
      simp only [lvl] at h
      split at h
      · cases h
      · cases ha : lvl n .ors { s with deep := s.deep + 1 } with
        | err e => rw [ha] at h; cases h
        | ok u =>
          rw [ha] at h
          simp only at h
          have e := ih .ors { s with deep := s.deep + 1 } u ha
          simp only at e
          cases hs : isS [41] u.rest with
          | mk b r =>
            have hr := isS_len hs
            rw [hs] at h
            cases b with
            | true => cases h; simp only; omega
            | false => cases h
theorem Rd.cell2 {base b : Nat} {s : St} {w : World} (h : Rd base b s w) : w.cell? ⟨b, 2, none⟩ = some (.int .i64 (s.deep : Nat)) ∧ w.frozen? ⟨b, 2, none⟩ = false := by
  obtain ⟨h0, pv, h1, h2, h3⟩ := h
  exact ⟨by rw [block_cell h1]; rfl, block_free h1 2⟩
theorem errC_ne {c : Er} (h : c ≠ .fuel) : ∃ v, errC c = v ∧ (v != (0 : Int)) = true := by
  cases c
  · exact ⟨4, rfl, by decide⟩
  · exact ⟨8, rfl, by decide⟩
  · exact absurd rfl h
theorem inner_deep {n : Nat} {s : St} (h : s.deep = 64) : lvl (n + 1) .inner s = .err .deep := by simp only [lvl]; rw [if_pos h]
theorem inner_err {n : Nat} {s : St} {c : Er} (h : ¬ s.deep = 64) (h2 : lvl n .ors { s with deep := s.deep + 1 } = .err c) : lvl (n + 1) .inner s = .err c := by simp only [lvl]; rw [if_neg h, h2]
theorem inner_ok {n : Nat} {s t : St} (h : ¬ s.deep = 64) (h2 : lvl n .ors { s with deep := s.deep + 1 } = .ok t) : lvl (n + 1) .inner s = match isS [41] t.rest with
      | (true, r) => .ok { rest := r, parts := t.parts, deep := t.deep - 1 }
      | (false, r) => .err .form := by simp only [lvl]; rw [if_neg h, h2]; rfl

set_option maxRecDepth 100000 in
set_option maxHeartbeats 1000000 in
theorem inner_co (n : Nat) (hO : CO n .ors) : CO (n + 1) .inner := by
  intro base b s w hR hroom hnf
  have hbb := hR.1
  have hbl := hR.lt
  have hd64 := hroom.2
  obtain ⟨hc2, hf2⟩ := hR.cell2
  by_cases hd : s.deep = 64
  · rw [inner_deep hd]
    have h1 : ((s.deep : Int) == 64) = true := by rw [hd]; rfl
    clear hR hroom hnf hd
    show Calls Tryz.prog 113 _ _ _
    go_enter Tryz.func113, Tryz.ntmps113
    go_wp2_with fail
    go_ret
    exact ⟨8, rfl, rfl, Below.refl _ _⟩
  · have h1 : ((s.deep : Int) == 64) = false := by rw [beq_eq_false_iff_ne]; omega
    have hR2 := hR.deep (s.deep + 1)
    have e1 : (((s.deep + 1 : Nat)) : Int) = (s.deep : Int) + 1 := by omega
    rw [e1] at hR2
    have hroom2 : Room { s with deep := s.deep + 1 } := ⟨hroom.1, by simp only; omega⟩
    cases ha : lvl n .ors { s with deep := s.deep + 1 } with
    | err c =>
      have e := inner_err hd ha
      rw [e] at hnf ⊢
      have hcf : c ≠ .fuel := fun h => hnf (by rw [h])
      have HC := Lib.hid (hO base b _ _ hR2 hroom2 (by rw [ha]; exact hnf))
      rw [ha] at HC
      obtain ⟨v0, hv0, hvn⟩ := errC_ne hcf
      have Hv0 := Lib.hid hv0
      clear hR hroom hnf hd hR2 hroom2 ha e hv0 hcf
      show Calls Tryz.prog 113 _ _ _
      go_enter Tryz.func113, Tryz.ntmps113
      go_wp2_with fail
      refine HC.out.mono ?_
      rintro e w1 ⟨v, rfl, hp, hB⟩
      obtain rfl : v = v0 := hp.trans Hv0.out
      clear hp
      go_wp2_with fail
      go_ret
      exact ⟨_, rfl, Hv0.out.symm, ((Below.refl base w).setCell hbb _).trans hB⟩
    | ok t =>
      have e := inner_ok hd ha
      have HC := Lib.hid (hO base b _ _ hR2 hroom2 (by rw [ha]; intro h; cases h))
      rw [ha] at HC
      rw [e] at hnf ⊢
      have hdt := lvl_deep _ _ _ _ ha
      simp only at hdt
      have hdt0 : 1 ≤ t.deep := by omega
      have hdt1 : t.deep ≤ 65 := by omega
      clear hdt hR hroom hR2 hroom2 ha e hd
      cases hs : isS [41] t.rest with
      | mk ok r =>
        rw [hs] at hnf
        cases ok with
        | false =>
          clear hnf
          show Calls Tryz.prog 113 _ _ _
          go_enter Tryz.func113, Tryz.ntmps113
          go_wp2_with fail
          refine HC.out.mono ?_
          rintro e w1 ⟨v, rfl, ⟨rfl, hR1⟩, hB⟩
          have HI := Lib.hid (is_any base b [41] t w1 hR1)
          unfold IsEnd at HI
          rw [hs] at HI
          have HB := Lib.hid (((Below.refl base w).setCell (p := ⟨b, 2, none⟩) hbb _).trans hB)
          clear hR1 hB hs
          go_wp2_with fail
          refine HI.out.mono ?_
          rintro e w2 ⟨rfl, hR2, hB2⟩
          go_wp2_with fail
          go_ret
          exact ⟨4, rfl, rfl, HB.out.trans hB2⟩
        | true =>
          clear hnf
          show Calls Tryz.prog 113 _ _ _
          go_enter Tryz.func113, Tryz.ntmps113
          go_wp2_with fail
          refine HC.out.mono ?_
          rintro e w1 ⟨v, rfl, ⟨rfl, hR1⟩, hB⟩
          have HI := Lib.hid (is_any base b [41] t w1 hR1)
          unfold IsEnd at HI
          rw [hs] at HI
          have HB := Lib.hid (((Below.refl base w).setCell (p := ⟨b, 2, none⟩) hbb _).trans hB)
          clear hR1 hB hs
          go_wp2_with fail
          refine HI.out.mono ?_
          rintro e w2 ⟨rfl, hR2, hB2⟩
          obtain ⟨hc3, hf3⟩ := hR2.cell2
          simp only at hc3
          have hR3 := Lib.hid (hR2.deep (t.deep - 1))
          have e3 : ((t.deep - 1 : Nat) : Int) = (t.deep : Int) - 1 := by omega
          rw [e3] at hR3
          have HB2 := Lib.hid hB2
          clear hR2 hB2 e3
          go_wp2_with fail
          go_ret
          exact ⟨0, rfl, ⟨rfl, hR3.out⟩, (HB.out.trans HB2.out).setCell hbb _⟩
theorem nots_no {n : Nat} {s : St} {r : List UInt8} (hs : isS [33] s.rest = (false, r)) : lvl (n + 1) .nots s = lvl n .part { s with rest := r } := by simp only [lvl]; rw [hs]
theorem nots_yes {n : Nat} {s : St} {r : List UInt8} (hs : isS [33] s.rest = (true, r)) : lvl (n + 1) .nots s = match lvl n .part { s with rest := r } with | .ok t => .ok { t with parts := t.parts ++ [notB] } | .err e => .err e := by simp only [lvl]; rw [hs]; rfl

set_option maxRecDepth 100000 in
set_option maxHeartbeats 1000000 in
theorem nots_co (n : Nat) (hP : CO n .part) : CO (n + 1) .nots := by
  intro base b s w hR hroom hnf
  obtain ⟨i0, hi, hz0, hz1, hz2⟩ := info_parts Tryz.info9
  have hbb := hR.1
  have HI := Lib.hid (is_any base b [33] s w hR)
  unfold IsEnd at HI
  cases hs : isS [33] s.rest with
  | mk ok r =>
    have hlen := isS_len hs
    rw [hs] at HI
    have hroom2 : Room { s with rest := r } := ⟨by have := hroom.1; simp only; omega, hroom.2⟩
    cases ok with
    | false =>
      rw [nots_no hs] at hnf ⊢
      have HN := Lib.hid (fun w1 (h1 : Rd base b { s with rest := r } w1) => hP base b { s with rest := r } w1 h1 hroom2 hnf)
      generalize lvl n .part { s with rest := r } = R at *
      clear hR hroom hnf hs hroom2
      show Calls Tryz.prog 96 _ _ _
      go_enter Tryz.func96, Tryz.ntmps96
      go_wp2_with fail
      refine HI.out.mono ?_
      rintro e w1 ⟨rfl, hR1, hB1⟩
      have HR1 := Lib.hid hR1
      have HB1 := Lib.hid hB1
      clear hR1 hB1
      go_wp2_with fail
      refine (HN.out _ HR1.out).mono ?_
      rintro e w2 ⟨v, rfl, hp, hB2⟩
      go_wp2_with fail
      go_ret
      exact ⟨v, rfl, hp, HB1.out.trans hB2⟩
    | true =>
      rw [nots_yes hs] at hnf ⊢
      cases ha : lvl n .part { s with rest := r } with
      | err c =>
        rw [ha] at hnf
        have hcf : c ≠ .fuel := fun h => hnf (by rw [h])
        have HN := Lib.hid (fun w1 (h1 : Rd base b { s with rest := r } w1) => hP base b { s with rest := r } w1 h1 hroom2 (by rw [ha]; exact hnf))
        rw [ha] at HN
        obtain ⟨v0, hv0, hvn⟩ := errC_ne hcf
        have Hv0 := Lib.hid hv0
        clear hR hroom hnf hs hroom2 ha hcf hv0
        show Calls Tryz.prog 96 _ _ _
        go_enter Tryz.func96, Tryz.ntmps96
        go_wp2_with fail
        refine HI.out.mono ?_
        rintro e w1 ⟨rfl, hR1, hB1⟩
        have HR1 := Lib.hid hR1
        have HB1 := Lib.hid hB1
        clear hR1 hB1
        go_wp2_with fail
        refine (HN.out _ HR1.out).mono ?_
        rintro e w2 ⟨v, rfl, hp, hB2⟩
        obtain rfl : v = v0 := hp.trans Hv0.out
        clear hp
        go_wp2_with fail
        go_ret
        exact ⟨_, rfl, Hv0.out.symm, HB1.out.trans hB2⟩
      | ok u =>
        have HN := Lib.hid (fun w1 (h1 : Rd base b { s with rest := r } w1) => hP base b { s with rest := r } w1 h1 hroom2 (by rw [ha]; intro h; cases h))
        rw [ha] at HN
        have hru := lvl_room _ _ _ _ ha
        have hpl : u.parts.length ≤ 4096 := by have := hroom2.1; omega
        clear hR hroom hnf hs hroom2 ha hru
        show Calls Tryz.prog 96 _ _ _
        go_enter Tryz.func96, Tryz.ntmps96
        go_wp2_with fail
        refine HI.out.mono ?_
        rintro e w1 ⟨rfl, hR1, hB1⟩
        have HR1 := Lib.hid hR1
        have HB1 := Lib.hid hB1
        clear hR1 hB1
        go_wp2_with fail
        refine (HN.out _ HR1.out).mono ?_
        rintro e w2 ⟨v, rfl, ⟨rfl, hR1⟩, hB2⟩
        have HB := Lib.hid (HB1.out.trans hB2)
        clear hB2
        obtain ⟨_, pv, hblk, hown, hne⟩ := hR1
        have hc1 : w2.cell? ⟨b, 1, none⟩ = some pv := (block_cell hblk 1).trans rfl
        have hf1 := block_free hblk 1
        have hbl1 := lt_of_block hblk
        have Hblk := Lib.hid hblk
        have Hown := Lib.hid hown
        have Hne := Lib.hid hne
        clear hblk hown hne
        go_wp2_with (at_builtin; go_must (refine wpList_append_lies _ rfl (.tmp 18) (.tmp 19) 22 rfl base 9 i0 (.string ⟨#[]⟩) 1 16 Tryz.underlying22 hi hz0 hz1 hz2 rfl (by decide) pv u.parts.length (u.parts.map Value.string) rfl (Hown.out.alloc _) ⟨w2.heap.size, 0, none⟩ 1 1 [.string ⟨#[33]⟩] rfl rfl (cell_one_new _ _ _) (by intro u hu; simp at hu; subst hu; rfl) (by decide) (by unfold maxLen; omega) (by omega) (by simp; omega) (w2.heap.size + 1) (by simp) ?_); intro g cap w8 hown8 hgrow8 hat8 hlt8; have hblk8 := app_keep Hblk.out hgrow8 Hne.out; have hc8 : w8.cell? ⟨b, 1, none⟩ = some pv := (block_cell hblk8 1).trans rfl; have hf8 := block_free hblk8 1; have Hblk8 := Lib.hid hblk8; have Hown8 := Lib.hid hown8; have Hgrow8 := Lib.hid hgrow8; have Hat8 := Lib.hid hat8; clear hblk8 hown8 hgrow8 hat8)
        have hne8 : (Value.slice (some ⟨g, 0, none⟩) (u.parts.length + 1) cap).ownBlock ≠ some b := by
          intro e
          have e2 : g = b := by simpa [Value.ownBlock] using e
          rcases Hat8.out with h | h
          · exact Hne.out (h.trans (by rw [e2]))
          · omega
        have hR8 : Rd base b { u with parts := u.parts ++ [notB] } (w8.setCell ⟨b, 1, none⟩ (.slice (some ⟨g, 0, none⟩) (u.parts.length + 1) cap)) := by
          have ho := own_set (i := 1) (u := Value.slice (some ⟨g, 0, none⟩) (u.parts.length + 1) cap) Hown8.out hne8
          exact ⟨hbb, _, block_set Hblk8.out, by simpa [notB] using ho, hne8⟩
        have hB8 : Below base w (w8.setCell ⟨b, 1, none⟩ (.slice (some ⟨g, 0, none⟩) (u.parts.length + 1) cap)) := by
          have hBs : base ≤ w2.heap.size := by omega
          exact ((HB.out.alloc hBs _).grown Hgrow8.out (by simp; omega) (fun j hj => (Hown.out.lt j hj).1)).setCell hbb _
        go_ret
        exact ⟨0, rfl, ⟨rfl, hR8⟩, hB8⟩
theorem ors_err {n : Nat} {s : St} {c : Er} (h : lvl n .ands s = .err c) : lvl (n + 1) .ors s = .err c := by simp only [lvl]; rw [h]
theorem ors_ok {n : Nat} {s t : St} (h : lvl n .ands s = .ok t) : lvl (n + 1) .ors s = lvl n .orsT t := by simp only [lvl]; rw [h]
theorem orsT_no {n : Nat} {s : St} {r : List UInt8} (hs : isS [124, 124] s.rest = (false, r)) : lvl (n + 1) .orsT s = .ok { s with rest := r } := by simp only [lvl]; rw [hs]
theorem orsT_err {n : Nat} {s : St} {r : List UInt8} {c : Er} (hs : isS [124, 124] s.rest = (true, r)) (h : lvl n .ands { s with rest := r } = .err c) : lvl (n + 1) .orsT s = .err c := by simp only [lvl]; rw [hs]; simp only; rw [h]
theorem orsT_ok {n : Nat} {s t : St} {r : List UInt8} (hs : isS [124, 124] s.rest = (true, r)) (h : lvl n .ands { s with rest := r } = .ok t) : lvl (n + 1) .orsT s = lvl n .orsT { t with parts := t.parts ++ [orB] } := by simp only [lvl]; rw [hs]; simp only; rw [h]

set_option maxRecDepth 100000 in
set_option maxHeartbeats 2000000 in
theorem ors_row (n : Nat) (hA : ∀ m, m ≤ n → CO m .ands) (base b : Nat) (s : St) (w : World) (hR : Rd base b s w) (hroom : Room s) (hnf : lvl (n + 1) .ors s ≠ .err .fuel) :
    Calls Tryz.prog 76 #[.pointer (some ⟨b, 0, none⟩), .string ⟨#[124, 124]⟩, .func (.func 77) #[.pointer (some ⟨b, 0, none⟩)] #[]] w (PEnd base b (lvl (n + 1) .ors s) w) := by
  obtain ⟨i0, hi, hz0, hz1, hz2⟩ := info_parts Tryz.info9
  have hbb := hR.1
  have HA := Lib.hid hA
  cases ha : lvl n .ands s with
  | err c =>
    rw [ors_err ha] at hnf ⊢
    have hcf : c ≠ .fuel := fun h => hnf (by rw [h])
    have HN := Lib.hid (show Calls Tryz.prog 77 _ _ _ from hA n (Nat.le_refl _) base b s w hR hroom (by rw [ha]; exact hnf))
    rw [ha] at HN
    obtain ⟨v0, hv0, hvn⟩ := errC_ne hcf
    have Hv0 := Lib.hid hv0
    clear hR hroom hnf ha hcf hv0 hA
    go_enter Tryz.func76, Tryz.ntmps76
    go_wp2_with fail
    refine HN.out.mono ?_
    rintro e w2 ⟨v, rfl, hp, hB2⟩
    obtain rfl : v = v0 := hp.trans Hv0.out
    clear hp
    go_wp2_with fail
    go_ret
    exact ⟨_, rfl, Hv0.out.symm, hB2⟩
  | ok t =>
    have hRm : lvl (n + 1) .ors s = lvl n .orsT t := ors_ok ha
    have HN := Lib.hid (show Calls Tryz.prog 77 _ _ _ from hA n (Nat.le_refl _) base b s w hR hroom (by rw [ha]; intro h; cases h))
    rw [ha] at HN
    rw [hRm] at hnf ⊢
    have hrt := lvl_room _ _ _ _ ha
    have hdt := lvl_deep _ _ _ _ ha
    have hroomt : Room t := ⟨by have := hroom.1; omega, by have := hroom.2; omega⟩
    generalize hRR : lvl n .orsT t = R at *
    clear hR hroom ha hA hrt hdt hRm
    go_enter Tryz.func76, Tryz.ntmps76
    go_wp2_with fail
    refine HN.out.mono ?_
    rintro e w1 ⟨v, rfl, ⟨rfl, hR1⟩, hB1⟩
    go_wp2_with fail
    go_loopg [8] (n + 1) (fun g _ wr => ∃ (m : Nat) (u : St), m + 1 = g ∧ m ≤ n ∧ Rd base b u wr ∧ Room u ∧ lvl m .orsT u = R ∧ Below base w wr)
    case atStart => exact ⟨n, t, rfl, Nat.le_refl _, hR1, hroomt, hRR, hB1⟩
    case round =>
      obtain ⟨m, u, hmg, hmn, hRu, hroomu, hlu, hBu⟩ := hrel
      clear hR1 hroomt hRR hB1
      have HI := Lib.hid (is_any base b [124, 124] u wr hRu)
      unfold IsEnd at HI
      have Hlu := Lib.hid hlu
      have HBu := Lib.hid hBu
      clear hRu hlu hBu
      cases m with
      | zero => exact absurd Hlu.out.symm hnf
      | succ m =>
        cases hs : isS [124, 124] u.rest with
        | mk ok r =>
          have hlen := isS_len hs
          rw [hs] at HI
          have hroomr : Room { u with rest := r } := ⟨by have := hroomu.1; simp only; omega, hroomu.2⟩
          cases ok with
          | false =>
            have he := Lib.hid (Hlu.out.symm.trans (orsT_no hs))
            clear hs hroomr
            go_wp2_with fail
            refine HI.out.mono ?_
            rintro e w2 ⟨rfl, hR2, hB2⟩
            have HR2 := Lib.hid hR2
            clear hR2
            go_wp2_with fail
            go_ret
            rw [he.out]
            exact ⟨0, rfl, ⟨rfl, HR2.out⟩, HBu.out.trans hB2⟩
          | true =>
            cases hb : lvl m .ands { u with rest := r } with
            | err c =>
              have he0 := Hlu.out.symm.trans (orsT_err hs hb)
              have hcf : c ≠ .fuel := fun h => hnf (by rw [he0, h])
              have he := Lib.hid he0
              have HM := Lib.hid (fun w2 (h2 : Rd base b { u with rest := r } w2) => (show Calls Tryz.prog 77 _ _ _ from HA.out m (by omega) base b _ w2 h2 hroomr (by rw [hb]; intro h; cases h; exact hcf rfl)))
              rw [hb] at HM
              obtain ⟨v0, hv0, hvn⟩ := errC_ne hcf
              have Hv0 := Lib.hid hv0
              clear hs hroomr hb hcf hv0 he0
              go_wp2_with fail
              refine HI.out.mono ?_
              rintro e w2 ⟨rfl, hR2, hB2⟩
              have HR2 := Lib.hid hR2
              have HB2 := Lib.hid hB2
              clear hR2 hB2
              go_wp2_with fail
              refine (HM.out _ HR2.out).mono ?_
              rintro e w3 ⟨v, rfl, hp, hB3⟩
              obtain rfl : v = v0 := hp.trans Hv0.out
              clear hp
              go_wp2_with fail
              go_ret
              rw [he.out]
              exact ⟨_, rfl, Hv0.out.symm, (HBu.out.trans HB2.out).trans hB3⟩
            | ok q =>
              have he := Lib.hid ((orsT_ok hs hb).symm.trans Hlu.out)
              have HM := Lib.hid (fun w2 (h2 : Rd base b { u with rest := r } w2) => (show Calls Tryz.prog 77 _ _ _ from HA.out m (by omega) base b _ w2 h2 hroomr (by rw [hb]; intro h; cases h)))
              rw [hb] at HM
              have hrq := lvl_room _ _ _ _ hb
              have hdq := lvl_deep _ _ _ _ hb
              have hrr := isS_true hs (by decide)
              simp only [List.length_cons, List.length_nil] at hrr hrq hdq
              have hroomq : Room { q with parts := q.parts ++ [orB] } := ⟨by have := hroomu.1; simp only [List.length_append, List.length_singleton]; omega, by have := hroomu.2; simp only; omega⟩
              have hpl : q.parts.length ≤ 4096 := by have := hroomu.1; omega
              have Hroomq := Lib.hid hroomq
              clear hs hroomr hb hrq hdq hrr hroomq hroomu
              go_wp2_with fail
              refine HI.out.mono ?_
              rintro e w2 ⟨rfl, hR2, hB2⟩
              have HR2 := Lib.hid hR2
              have HB2 := Lib.hid hB2
              clear hR2 hB2
              go_wp2_with fail
              refine (HM.out _ HR2.out).mono ?_
              rintro e w3 ⟨v, rfl, ⟨rfl, hR1⟩, hB3⟩
              have HB := Lib.hid ((HBu.out.trans HB2.out).trans hB3)
              clear hB3
              obtain ⟨_, pv, hblk, hown, hne⟩ := hR1
              have hc1 : w3.cell? ⟨b, 1, none⟩ = some pv := (block_cell hblk 1).trans rfl
              have hf1 := block_free hblk 1
              have hbl1 := lt_of_block hblk
              have Hblk := Lib.hid hblk
              have Hown := Lib.hid hown
              have Hne := Lib.hid hne
              clear hblk hown hne
              go_wp2_with (at_builtin; go_must (refine wpList_append_lies _ rfl (.tmp 26) (.tmp 28) 22 rfl base 9 i0 (.string ⟨#[]⟩) 1 16 Tryz.underlying22 hi hz0 hz1 hz2 rfl (by decide) pv q.parts.length (q.parts.map Value.string) rfl (Hown.out.alloc _) ⟨w3.heap.size, 0, none⟩ 1 1 [.string ⟨#[124, 124]⟩] rfl rfl (cell_one_new _ _ _) (by intro u hu; simp at hu; subst hu; rfl) (by decide) (by unfold maxLen; omega) (by omega) (by simp; omega) (w3.heap.size + 1) (by simp) ?_); intro g cap w8 hown8 hgrow8 hat8 hlt8; have hblk8 := app_keep Hblk.out hgrow8 Hne.out; have hc8 : w8.cell? ⟨b, 1, none⟩ = some pv := (block_cell hblk8 1).trans rfl; have hf8 := block_free hblk8 1; have Hblk8 := Lib.hid hblk8; have Hown8 := Lib.hid hown8; have Hgrow8 := Lib.hid hgrow8; have Hat8 := Lib.hid hat8; clear hblk8 hown8 hgrow8 hat8)
              have hne8 : (Value.slice (some ⟨g, 0, none⟩) (q.parts.length + 1) cap).ownBlock ≠ some b := by
                intro e
                have e2 : g = b := by simpa [Value.ownBlock] using e
                rcases Hat8.out with h | h
                · exact Hne.out (h.trans (by rw [e2]))
                · omega
              have hR8 : Rd base b { q with parts := q.parts ++ [orB] } (w8.setCell ⟨b, 1, none⟩ (.slice (some ⟨g, 0, none⟩) (q.parts.length + 1) cap)) := by
                have ho := own_set (i := 1) (u := Value.slice (some ⟨g, 0, none⟩) (q.parts.length + 1) cap) Hown8.out hne8
                exact ⟨hbb, _, block_set Hblk8.out, by simpa [orB] using ho, hne8⟩
              have hB8 : Below base w (w8.setCell ⟨b, 1, none⟩ (.slice (some ⟨g, 0, none⟩) (q.parts.length + 1) cap)) := by
                have hBs : base ≤ w3.heap.size := by omega
                exact ((HB.out.alloc hBs _).grown Hgrow8.out (by simp; omega) (fun j hj => (Hown.out.lt j hj).1)).setCell hbb _
              go_roundg (gk - 1)
              case measure => omega
              case rel => exact ⟨m, { q with parts := q.parts ++ [orB] }, by omega, by omega, hR8, Hroomq.out, he.out, hB8⟩
theorem ors_co (n : Nat) (hA : ∀ m, m ≤ n → CO m .ands) : CO (n + 1) .ors := by
  intro base b s w hR hroom hnf
  have HR := Lib.hid (ors_row n hA base b s w hR hroom hnf)
  generalize lvl (n + 1) .ors s = R at *
  clear hR hroom hnf hA
  show Calls Tryz.prog 60 _ _ _
  go_enter Tryz.func60, Tryz.ntmps60
  go_wp2_with fail
  refine HR.out.mono ?_
  rintro e w1 ⟨v, rfl, hp, hB⟩
  go_wp2_with fail
  go_ret
  exact ⟨v, rfl, hp, hB⟩
theorem ands_err {n : Nat} {s : St} {c : Er} (h : lvl n .nots s = .err c) : lvl (n + 1) .ands s = .err c := by simp only [lvl]; rw [h]
theorem ands_ok {n : Nat} {s t : St} (h : lvl n .nots s = .ok t) : lvl (n + 1) .ands s = lvl n .andsT t := by simp only [lvl]; rw [h]
theorem andsT_no {n : Nat} {s : St} {r : List UInt8} (hs : isS [38, 38] s.rest = (false, r)) : lvl (n + 1) .andsT s = .ok { s with rest := r } := by simp only [lvl]; rw [hs]
theorem andsT_err {n : Nat} {s : St} {r : List UInt8} {c : Er} (hs : isS [38, 38] s.rest = (true, r)) (h : lvl n .nots { s with rest := r } = .err c) : lvl (n + 1) .andsT s = .err c := by simp only [lvl]; rw [hs]; simp only; rw [h]
theorem andsT_ok {n : Nat} {s t : St} {r : List UInt8} (hs : isS [38, 38] s.rest = (true, r)) (h : lvl n .nots { s with rest := r } = .ok t) : lvl (n + 1) .andsT s = lvl n .andsT { t with parts := t.parts ++ [andB] } := by simp only [lvl]; rw [hs]; simp only; rw [h]

set_option maxRecDepth 100000 in
set_option maxHeartbeats 2000000 in
theorem ands_row (n : Nat) (hA : ∀ m, m ≤ n → CO m .nots) (base b : Nat) (s : St) (w : World) (hR : Rd base b s w) (hroom : Room s) (hnf : lvl (n + 1) .ands s ≠ .err .fuel) :
    Calls Tryz.prog 76 #[.pointer (some ⟨b, 0, none⟩), .string ⟨#[38, 38]⟩, .func (.func 96) #[.pointer (some ⟨b, 0, none⟩)] #[]] w (PEnd base b (lvl (n + 1) .ands s) w) := by
  obtain ⟨i0, hi, hz0, hz1, hz2⟩ := info_parts Tryz.info9
  have hbb := hR.1
  have HA := Lib.hid hA
  cases ha : lvl n .nots s with
  | err c =>
    rw [ands_err ha] at hnf ⊢
    have hcf : c ≠ .fuel := fun h => hnf (by rw [h])
    have HN := Lib.hid (show Calls Tryz.prog 96 _ _ _ from hA n (Nat.le_refl _) base b s w hR hroom (by rw [ha]; exact hnf))
    rw [ha] at HN
    obtain ⟨v0, hv0, hvn⟩ := errC_ne hcf
    have Hv0 := Lib.hid hv0
    clear hR hroom hnf ha hcf hv0 hA
    go_enter Tryz.func76, Tryz.ntmps76
    go_wp2_with fail
    refine HN.out.mono ?_
    rintro e w2 ⟨v, rfl, hp, hB2⟩
    obtain rfl : v = v0 := hp.trans Hv0.out
    clear hp
    go_wp2_with fail
    go_ret
    exact ⟨_, rfl, Hv0.out.symm, hB2⟩
  | ok t =>
    have hRm : lvl (n + 1) .ands s = lvl n .andsT t := ands_ok ha
    have HN := Lib.hid (show Calls Tryz.prog 96 _ _ _ from hA n (Nat.le_refl _) base b s w hR hroom (by rw [ha]; intro h; cases h))
    rw [ha] at HN
    rw [hRm] at hnf ⊢
    have hrt := lvl_room _ _ _ _ ha
    have hdt := lvl_deep _ _ _ _ ha
    have hroomt : Room t := ⟨by have := hroom.1; omega, by have := hroom.2; omega⟩
    generalize hRR : lvl n .andsT t = R at *
    clear hR hroom ha hA hrt hdt hRm
    go_enter Tryz.func76, Tryz.ntmps76
    go_wp2_with fail
    refine HN.out.mono ?_
    rintro e w1 ⟨v, rfl, ⟨rfl, hR1⟩, hB1⟩
    go_wp2_with fail
    go_loopg [8] (n + 1) (fun g _ wr => ∃ (m : Nat) (u : St), m + 1 = g ∧ m ≤ n ∧ Rd base b u wr ∧ Room u ∧ lvl m .andsT u = R ∧ Below base w wr)
    case atStart => exact ⟨n, t, rfl, Nat.le_refl _, hR1, hroomt, hRR, hB1⟩
    case round =>
      obtain ⟨m, u, hmg, hmn, hRu, hroomu, hlu, hBu⟩ := hrel
      clear hR1 hroomt hRR hB1
      have HI := Lib.hid (is_any base b [38, 38] u wr hRu)
      unfold IsEnd at HI
      have Hlu := Lib.hid hlu
      have HBu := Lib.hid hBu
      clear hRu hlu hBu
      cases m with
      | zero => exact absurd Hlu.out.symm hnf
      | succ m =>
        cases hs : isS [38, 38] u.rest with
        | mk ok r =>
          have hlen := isS_len hs
          rw [hs] at HI
          have hroomr : Room { u with rest := r } := ⟨by have := hroomu.1; simp only; omega, hroomu.2⟩
          cases ok with
          | false =>
            have he := Lib.hid (Hlu.out.symm.trans (andsT_no hs))
            clear hs hroomr
            go_wp2_with fail
            refine HI.out.mono ?_
            rintro e w2 ⟨rfl, hR2, hB2⟩
            have HR2 := Lib.hid hR2
            clear hR2
            go_wp2_with fail
            go_ret
            rw [he.out]
            exact ⟨0, rfl, ⟨rfl, HR2.out⟩, HBu.out.trans hB2⟩
          | true =>
            cases hb : lvl m .nots { u with rest := r } with
            | err c =>
              have he0 := Hlu.out.symm.trans (andsT_err hs hb)
              have hcf : c ≠ .fuel := fun h => hnf (by rw [he0, h])
              have he := Lib.hid he0
              have HM := Lib.hid (fun w2 (h2 : Rd base b { u with rest := r } w2) => (show Calls Tryz.prog 96 _ _ _ from HA.out m (by omega) base b _ w2 h2 hroomr (by rw [hb]; intro h; cases h; exact hcf rfl)))
              rw [hb] at HM
              obtain ⟨v0, hv0, hvn⟩ := errC_ne hcf
              have Hv0 := Lib.hid hv0
              clear hs hroomr hb hcf hv0 he0
              go_wp2_with fail
              refine HI.out.mono ?_
              rintro e w2 ⟨rfl, hR2, hB2⟩
              have HR2 := Lib.hid hR2
              have HB2 := Lib.hid hB2
              clear hR2 hB2
              go_wp2_with fail
              refine (HM.out _ HR2.out).mono ?_
              rintro e w3 ⟨v, rfl, hp, hB3⟩
              obtain rfl : v = v0 := hp.trans Hv0.out
              clear hp
              go_wp2_with fail
              go_ret
              rw [he.out]
              exact ⟨_, rfl, Hv0.out.symm, (HBu.out.trans HB2.out).trans hB3⟩
            | ok q =>
              have he := Lib.hid ((andsT_ok hs hb).symm.trans Hlu.out)
              have HM := Lib.hid (fun w2 (h2 : Rd base b { u with rest := r } w2) => (show Calls Tryz.prog 96 _ _ _ from HA.out m (by omega) base b _ w2 h2 hroomr (by rw [hb]; intro h; cases h)))
              rw [hb] at HM
              have hrq := lvl_room _ _ _ _ hb
              have hdq := lvl_deep _ _ _ _ hb
              have hrr := isS_true hs (by decide)
              simp only [List.length_cons, List.length_nil] at hrr hrq hdq
              have hroomq : Room { q with parts := q.parts ++ [andB] } := ⟨by have := hroomu.1; simp only [List.length_append, List.length_singleton]; omega, by have := hroomu.2; simp only; omega⟩
              have hpl : q.parts.length ≤ 4096 := by have := hroomu.1; omega
              have Hroomq := Lib.hid hroomq
              clear hs hroomr hb hrq hdq hrr hroomq hroomu
              go_wp2_with fail
              refine HI.out.mono ?_
              rintro e w2 ⟨rfl, hR2, hB2⟩
              have HR2 := Lib.hid hR2
              have HB2 := Lib.hid hB2
              clear hR2 hB2
              go_wp2_with fail
              refine (HM.out _ HR2.out).mono ?_
              rintro e w3 ⟨v, rfl, ⟨rfl, hR1⟩, hB3⟩
              have HB := Lib.hid ((HBu.out.trans HB2.out).trans hB3)
              clear hB3
              obtain ⟨_, pv, hblk, hown, hne⟩ := hR1
              have hc1 : w3.cell? ⟨b, 1, none⟩ = some pv := (block_cell hblk 1).trans rfl
              have hf1 := block_free hblk 1
              have hbl1 := lt_of_block hblk
              have Hblk := Lib.hid hblk
              have Hown := Lib.hid hown
              have Hne := Lib.hid hne
              clear hblk hown hne
              go_wp2_with (at_builtin; go_must (refine wpList_append_lies _ rfl (.tmp 26) (.tmp 28) 22 rfl base 9 i0 (.string ⟨#[]⟩) 1 16 Tryz.underlying22 hi hz0 hz1 hz2 rfl (by decide) pv q.parts.length (q.parts.map Value.string) rfl (Hown.out.alloc _) ⟨w3.heap.size, 0, none⟩ 1 1 [.string ⟨#[38, 38]⟩] rfl rfl (cell_one_new _ _ _) (by intro u hu; simp at hu; subst hu; rfl) (by decide) (by unfold maxLen; omega) (by omega) (by simp; omega) (w3.heap.size + 1) (by simp) ?_); intro g cap w8 hown8 hgrow8 hat8 hlt8; have hblk8 := app_keep Hblk.out hgrow8 Hne.out; have hc8 : w8.cell? ⟨b, 1, none⟩ = some pv := (block_cell hblk8 1).trans rfl; have hf8 := block_free hblk8 1; have Hblk8 := Lib.hid hblk8; have Hown8 := Lib.hid hown8; have Hgrow8 := Lib.hid hgrow8; have Hat8 := Lib.hid hat8; clear hblk8 hown8 hgrow8 hat8)
              have hne8 : (Value.slice (some ⟨g, 0, none⟩) (q.parts.length + 1) cap).ownBlock ≠ some b := by
                intro e
                have e2 : g = b := by simpa [Value.ownBlock] using e
                rcases Hat8.out with h | h
                · exact Hne.out (h.trans (by rw [e2]))
                · omega
              have hR8 : Rd base b { q with parts := q.parts ++ [andB] } (w8.setCell ⟨b, 1, none⟩ (.slice (some ⟨g, 0, none⟩) (q.parts.length + 1) cap)) := by
                have ho := own_set (i := 1) (u := Value.slice (some ⟨g, 0, none⟩) (q.parts.length + 1) cap) Hown8.out hne8
                exact ⟨hbb, _, block_set Hblk8.out, by simpa [andB] using ho, hne8⟩
              have hB8 : Below base w (w8.setCell ⟨b, 1, none⟩ (.slice (some ⟨g, 0, none⟩) (q.parts.length + 1) cap)) := by
                have hBs : base ≤ w3.heap.size := by omega
                exact ((HB.out.alloc hBs _).grown Hgrow8.out (by simp; omega) (fun j hj => (Hown.out.lt j hj).1)).setCell hbb _
              go_roundg (gk - 1)
              case measure => omega
              case rel => exact ⟨m, { q with parts := q.parts ++ [andB] }, by omega, by omega, hR8, Hroomq.out, he.out, hB8⟩
theorem ands_co (n : Nat) (hA : ∀ m, m ≤ n → CO m .nots) : CO (n + 1) .ands := by
  intro base b s w hR hroom hnf
  have HR := Lib.hid (ands_row n hA base b s w hR hroom hnf)
  generalize lvl (n + 1) .ands s = R at *
  clear hR hroom hnf hA
  show Calls Tryz.prog 77 _ _ _
  go_enter Tryz.func77, Tryz.ntmps77
  go_wp2_with fail
  refine HR.out.mono ?_
  rintro e w1 ⟨v, rfl, hp, hB⟩
  go_wp2_with fail
  go_ret
  exact ⟨v, rfl, hp, hB⟩
theorem all_co : ∀ n, (CO n .part ∧ CO n .inner) ∧ (CO n .nots ∧ CO n .ands ∧ CO n .ors) := by
  intro n
  induction n using Nat.strongRecOn with
  | _ n ih =>
    cases n with
    | zero =>
      have h0 : ∀ L, CO 0 L := fun L base b s w _ _ h => absurd rfl h
      exact ⟨⟨h0 _, h0 _⟩, h0 _, h0 _, h0 _⟩
    | succ n =>
      obtain ⟨⟨h1, h2⟩, h3, h4, h5⟩ := ih n (by omega)
      exact ⟨⟨part_co n h2, inner_co n h5⟩, nots_co n h1, ands_co n (fun m hm => (ih m (by omega)).2.1), ors_co n (fun m hm => (ih m (by omega)).2.2.1)⟩
end Go.Proofs.YtpibehfmbmincaaGreatDoor
