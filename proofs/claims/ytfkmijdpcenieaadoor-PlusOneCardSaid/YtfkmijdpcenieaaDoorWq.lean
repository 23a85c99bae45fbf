/- Walks: the document's reader: Not, And, Or; the recursion closed. -/
import Derived.Test.YtfkmijdpcenieaaDoorWp
namespace Go.Proofs.YtfkmijdpcenieaaDoor
set_option linter.unusedVariables false
open Go.ChangeShapes Go.WideShapes Go.ChangeAt Go.RowKit

theorem notsP_no {n : Nat} {s : StP} (hs : (takeP notB s.left).1 = false) : lvlP (n + 1) .nots s = lvlP n .part s := by
  cases h : takeP notB s.left with
  | mk b r => rw [h] at hs; simp only at hs; subst hs; simp only [lvlP]; rw [h]; simp only; rw [takeP_false h]
theorem notsP_err {n : Nat} {s : StP} {r : List ByteArray} {c : Er} (hs : takeP notB s.left = (true, r)) (h : lvlP n .part { s with left := r } = .err c) : lvlP (n + 1) .nots s = .err c := by simp only [lvlP]; rw [hs]; simp only; rw [h]
theorem notsP_ok {n : Nat} {s u : StP} {r : List ByteArray} (hs : takeP notB s.left = (true, r)) (h : lvlP n .part { s with left := r } = .ok u) : lvlP (n + 1) .nots s = .ok { u with parts := u.parts ++ [notB] } := by simp only [lvlP]; rw [hs]; simp only; rw [h]
theorem PEndP.wider {base b k k' : Nat} {r : RsP} {w w0 w' : World} {e : Ending} (h : PEndP base b k r w e w') (hk : k ≤ k') (hB : Below base w0 w) : PEndP base b k' r w0 e w' := by
  obtain ⟨v, he, hp, hb⟩ := h
  refine ⟨v, he, ?_, hB.trans hb⟩
  cases r with
  | ok t => exact hp
  | err c => obtain ⟨h1, q, h2, h3⟩ := hp; exact ⟨h1, q, h2, Nat.le_trans h3 hk⟩

set_option maxRecDepth 100000 in
set_option maxHeartbeats 1000000 in
theorem nots_p (n : Nat) (hP : COP n .part) : COP (n + 1) .nots := by
  intro base b p w k hR hroom hk hnf
  obtain ⟨i0, hi, hz0, hz1, hz2⟩ := info_parts Tryd.info9
  have hbb := hR.1
  have HI := Lib.hid (take_any base b notB p w hR)
  unfold TakeEnd at HI
  cases hs : takeP notB p.left with
  | mk ok r =>
    rw [hs] at HI
    cases ok with
    | false =>
      have hr := takeP_false hs
      rw [notsP_no (by rw [hs])] at hnf ⊢
      have HN := Lib.hid (fun w1 (h1 : RdP base b p w1) => (show Calls Tryd.prog 78 _ _ _ from hP base b p w1 k h1 hroom hk hnf))
      have hpe : ({ p with left := r } : StP) = p := by rw [hr]
      simp only at HI
      rw [hpe] at HI
      obtain ⟨R, hRR⟩ : ∃ R, lvlP n .part p = R := ⟨_, rfl⟩
      rw [hRR] at hnf HN ⊢
      clear hR hroom hs hr hpe hRR
      cases R with
      | err c =>
        have hcf : c ≠ .fuel := fun h => hnf (by rw [h])
        clear hnf
        show Calls Tryd.prog 67 _ _ _
        go_enter Tryd.func67, Tryd.ntmps67
        go_wp2_with fail
        refine HI.out.mono ?_
        rintro e w1 ⟨rfl, hR1, hB1⟩
        have HR1 := Lib.hid hR1
        have HB1 := Lib.hid hB1
        clear hR1 hB1
        go_wp2_with fail
        refine (HN.out _ HR1.out).mono ?_
        rintro e w2 ⟨v, rfl, ⟨hv, hq⟩, hB2⟩
        obtain ⟨v1, v2⟩ := nfv hcf hv
        have Hv := Lib.hid hv
        have Hq := Lib.hid hq
        clear hv hq
        go_wp2_with fail
        go_ret
        exact ⟨_, rfl, ⟨Hv.out, Hq.out⟩, HB1.out.trans hB2⟩
      | ok u =>
        clear hnf
        show Calls Tryd.prog 67 _ _ _
        go_enter Tryd.func67, Tryd.ntmps67
        go_wp2_with fail
        refine HI.out.mono ?_
        rintro e w1 ⟨rfl, hR1, hB1⟩
        have HR1 := Lib.hid hR1
        have HB1 := Lib.hid hB1
        clear hR1 hB1
        go_wp2_with fail
        refine (HN.out _ HR1.out).mono ?_
        rintro e w2 ⟨v, rfl, ⟨rfl, hR2⟩, hB2⟩
        have HR2 := Lib.hid hR2
        clear hR2
        go_wp2_with fail
        go_ret
        exact ⟨0, rfl, ⟨rfl, HR2.out⟩, HB1.out.trans hB2⟩
    | true =>
      obtain ⟨hroom1, hk1⟩ := hroom.taken hs
      cases ha : lvlP n .part { p with left := r } with
      | err c =>
        rw [notsP_err hs ha] at hnf ⊢
        have hcf : c ≠ .fuel := fun h => hnf (by rw [h])
        have HN := Lib.hid (fun w1 (h1 : RdP base b { p with left := r } w1) => (show Calls Tryd.prog 78 _ _ _ from hP base b _ w1 k h1 hroom1 (by simp only; omega) (by rw [ha]; exact hnf)))
        rw [ha] at HN
        clear hR hroom hs hroom1 hk1 ha hnf
        show Calls Tryd.prog 67 _ _ _
        go_enter Tryd.func67, Tryd.ntmps67
        go_wp2_with fail
        refine HI.out.mono ?_
        rintro e w1 ⟨rfl, hR1, hB1⟩
        have HR1 := Lib.hid hR1
        have HB1 := Lib.hid hB1
        clear hR1 hB1
        go_wp2_with fail
        refine (HN.out _ HR1.out).mono ?_
        rintro e w2 ⟨v, rfl, ⟨hv, hq⟩, hB2⟩
        obtain ⟨v1, v2⟩ := nfv hcf hv
        have Hv := Lib.hid hv
        have Hq := Lib.hid hq
        clear hv hq
        go_wp2_with fail
        go_ret
        exact ⟨_, rfl, ⟨Hv.out, Hq.out⟩, HB1.out.trans hB2⟩
      | ok u =>
        rw [notsP_ok hs ha]
        have HN := Lib.hid (fun w1 (h1 : RdP base b { p with left := r } w1) => (show Calls Tryd.prog 78 _ _ _ from hP base b _ w1 k h1 hroom1 (by simp only; omega) (by rw [ha]; intro h; cases h)))
        rw [ha] at HN
        have hru := (hroom1.ok ha).1.1
        have hpl : u.parts.length ≤ 4096 := by omega
        clear hR hroom hs hroom1 hk1 ha hnf hru
        show Calls Tryd.prog 67 _ _ _
        go_enter Tryd.func67, Tryd.ntmps67
        go_wp2_with fail
        refine HI.out.mono ?_
        rintro e w1 ⟨rfl, hR1, hB1⟩
        have HR1 := Lib.hid hR1
        have HB1 := Lib.hid hB1
        clear hR1 hB1
        go_wp2_with fail
        refine (HN.out _ HR1.out).mono ?_
        rintro e w2 ⟨v, rfl, ⟨rfl, hR1⟩, hB2⟩
        have HB := Lib.hid (HB1.out.trans hB2)
        clear hB2
        have hbl := hR1.lt
        obtain ⟨_, lv, pv, hblk, hlow, hown, hne⟩ := hR1
        have hc1 : w2.cell? ⟨b, 1, none⟩ = some pv := (block_cell hblk 1).trans rfl
        have hf1 := block_free hblk 1
        have Hblk := Lib.hid hblk
        have Hlow := Lib.hid hlow
        have Hown := Lib.hid hown
        have Hne := Lib.hid hne
        clear hblk hlow hown hne
        go_wp2_with (at_builtin; go_must (refine wpList_append_lies _ rfl (.tmp 18) (.tmp 19) 22 rfl base 9 i0 (.string ⟨#[]⟩) 1 16 Tryd.underlying22 hi hz0 hz1 hz2 rfl (by decide) pv u.parts.length (u.parts.map Value.string) rfl (Hown.out.alloc _) ⟨w2.heap.size, 0, none⟩ 1 1 [.string ⟨#[33]⟩] rfl rfl (cell_one_new _ _ _) (by intro u hu; simp at hu; subst hu; rfl) (by decide) (by unfold maxLen; omega) (by omega) (by simp; omega) (w2.heap.size + 1) (by simp) ?_); intro g cap w8 hown8 hgrow8 hat8 hlt8; obtain ⟨⟨hc8, hf8⟩, hR8, hB8⟩ := RdP.push (u := u) hbb Hblk.out Hlow.out Hown.out Hne.out ((Below.refl base w2).alloc (by omega) _) (Below.heap_alloc w2 _ b hbl) hgrow8 hown8 (hat8.imp id (fun h => by omega)); have HR8 := Lib.hid hR8; have HB8 := Lib.hid hB8; clear hown8 hgrow8 hat8 hR8 hB8 hlt8)
        go_ret
        exact ⟨0, rfl, ⟨rfl, HR8.out⟩, HB.out.trans HB8.out⟩
theorem andsP_err {n : Nat} {s : StP} {c : Er} (h : lvlP n .nots s = .err c) : lvlP (n + 1) .ands s = .err c := by simp only [lvlP]; rw [h]
theorem andsP_ok {n : Nat} {s t : StP} (h : lvlP n .nots s = .ok t) : lvlP (n + 1) .ands s = lvlP n .andsT t := by simp only [lvlP]; rw [h]
theorem andsTP_no {n : Nat} {s : StP} {r : List ByteArray} (hs : takeP andB s.left = (false, r)) : lvlP (n + 1) .andsT s = .ok { s with left := r } := by simp only [lvlP]; rw [hs]
theorem andsTP_err {n : Nat} {s : StP} {r : List ByteArray} {c : Er} (hs : takeP andB s.left = (true, r)) (h : lvlP n .nots { s with left := r } = .err c) : lvlP (n + 1) .andsT s = .err c := by simp only [lvlP]; rw [hs]; simp only; rw [h]
theorem andsTP_ok {n : Nat} {s t : StP} {r : List ByteArray} (hs : takeP andB s.left = (true, r)) (h : lvlP n .nots { s with left := r } = .ok t) : lvlP (n + 1) .andsT s = lvlP n .andsT { t with parts := t.parts ++ [andB] } := by simp only [lvlP]; rw [hs]; simp only; rw [h]

set_option maxRecDepth 100000 in
set_option maxHeartbeats 2000000 in
theorem ands_p (n : Nat) (hA : ∀ m, m ≤ n → COP m .nots) : COP (n + 1) .ands := by
  intro base b p w k hR hroom hk hnf
  obtain ⟨i0, hi, hz0, hz1, hz2⟩ := info_parts Tryd.info9
  have hbb := hR.1
  have HA := Lib.hid hA
  have hk4 : ∀ j, j ≤ p.parts.length + p.left.length → j ≤ 4096 := fun j h => Nat.le_trans h hroom.1
  obtain ⟨K, hK⟩ : ∃ K, p.parts.length + p.left.length = K := ⟨_, rfl⟩
  have hK4 : K ≤ 4096 := by have := hroom.1; omega
  have hstart : ∀ e w', PEndP base b K (lvlP (n + 1) .ands p) w e w' → PEndP base b k (lvlP (n + 1) .ands p) w e w' := fun e w' h => h.wider (by omega) (Below.refl _ _)
  refine Calls.mono ?_ hstart
  have HN := Lib.hid (fun h => (show Calls Tryd.prog 67 _ _ _ from hA n (Nat.le_refl _) base b p w K hR hroom (by omega) h))
  cases ha : lvlP n .nots p with
  | err c =>
    rw [andsP_err ha] at hnf ⊢
    rw [ha] at HN
    have hcf : c ≠ .fuel := fun h => hnf (by rw [h])
    have HN2 := Lib.hid (HN.out hnf)
    clear hR hroom hnf ha hA hk hK hk4 hstart HN
    show Calls Tryd.prog 57 _ _ _
    go_enter Tryd.func57, Tryd.ntmps57
    go_wp2_with fail
    refine HN2.out.mono ?_
    rintro e w2 ⟨v, rfl, ⟨hv, hq⟩, hB2⟩
    obtain ⟨v1, v2⟩ := nfv hcf hv
    have Hv := Lib.hid hv
    have Hq := Lib.hid hq
    clear hv hq
    go_wp2_with fail
    go_loopg [3] 1 (fun g ev wr => ev = .int .i64 v ∧ w2 = wr)
    case atStart => exact ⟨rfl, rfl⟩
    case round =>
      obtain ⟨rfl, rfl⟩ := hrel
      go_wp2_with fail
      go_ret
      exact ⟨_, rfl, ⟨Hv.out, Hq.out⟩, hB2⟩
  | ok t =>
    have hRm : lvlP (n + 1) .ands p = lvlP n .andsT t := andsP_ok ha
    rw [ha] at HN
    have HN2 := Lib.hid (HN.out (by intro h; cases h))
    obtain ⟨hroomt, hkt⟩ := hroom.ok ha
    rw [hK] at hkt
    rw [hRm] at hnf ⊢
    generalize hRR : lvlP n .andsT t = R at *
    clear hR hroom ha hA hRm hk hK hk4 hstart HN
    show Calls Tryd.prog 57 _ _ _
    go_enter Tryd.func57, Tryd.ntmps57
    go_wp2_with fail
    refine HN2.out.mono ?_
    rintro e w1 ⟨v, rfl, ⟨rfl, hR1⟩, hB1⟩
    go_wp2_with fail
    go_loopg [3] (n + 1) (fun g ev wr => (∃ (m : Nat) (u : StP), m + 1 = g ∧ m ≤ n ∧ ev = .int .i64 0 ∧ RdP base b u wr ∧ RoomP u ∧ u.parts.length + u.left.length ≤ K ∧ lvlP m .andsT u = R ∧ Below base w wr) ∨ (∃ (c : Er) (v : Int) (q : StP), ev = .int .i64 v ∧ c ≠ .fuel ∧ v = errC c ∧ R = .err c ∧ RdP base b q wr ∧ q.parts.length + q.left.length ≤ K ∧ Below base w wr))
    case atStart => exact .inl ⟨n, t, rfl, Nat.le_refl _, rfl, hR1, hroomt, hkt, hRR, hB1⟩
    case round =>
      clear hR1 hroomt hRR hB1 hkt
      rcases hrel with ⟨m, u, hmg, hmn, rfl, hRu, hroomu, hku, hlu, hBu⟩ | ⟨c, v, q, rfl, hcf, hv, hRe, hRq, hkq, hBu⟩
      · have HI := Lib.hid (take_any base b andB u wr hRu)
        unfold TakeEnd at HI
        have Hlu := Lib.hid hlu
        have HBu := Lib.hid hBu
        clear hRu hlu hBu
        cases m with
        | zero => exact absurd Hlu.out.symm hnf
        | succ m =>
          cases hs : takeP andB u.left with
          | mk ok r =>
            rw [hs] at HI
            cases ok with
            | false =>
              have he := Lib.hid (Hlu.out.symm.trans (andsTP_no hs))
              clear hs hroomu hku
              go_wp2_with fail
              refine HI.out.mono ?_
              rintro e w2 ⟨rfl, hR2, hB2⟩
              have HR2 := Lib.hid hR2
              clear hR2
              go_wp2_with fail
              go_ret
              rw [he.out]
              exact ⟨0, rfl, ⟨rfl, HR2.out⟩, HBu.out.trans hB2⟩
            | true =>
              obtain ⟨hroomr, hkr⟩ := hroomu.taken hs
              cases hb : lvlP m .nots { u with left := r } with
              | err c =>
                have he0 := Hlu.out.symm.trans (andsTP_err hs hb)
                have hcf : c ≠ .fuel := fun h => hnf (by rw [he0, h])
                have he := Lib.hid he0
                have HM := Lib.hid (fun w2 (h2 : RdP base b { u with left := r } w2) => (show Calls Tryd.prog 67 _ _ _ from HA.out m (by omega) base b _ w2 (K - 1) h2 hroomr (by simp only; omega) (by rw [hb]; intro h; cases h; exact hcf rfl)))
                rw [hb] at HM
                have hK1 : 1 ≤ K := by omega
                clear hs hroomr hb he0 hroomu hku hkr
                go_wp2_with fail
                refine HI.out.mono ?_
                rintro e w2 ⟨rfl, hR2, hB2⟩
                have HR2 := Lib.hid hR2
                have HB2 := Lib.hid hB2
                clear hR2 hB2
                go_wp2_with fail
                refine (HM.out _ HR2.out).mono ?_
                rintro e w3 ⟨v, rfl, ⟨hv, q, hRq, hkq⟩, hB3⟩
                have hpl : q.parts.length ≤ 4096 := by omega
                have Hv := Lib.hid hv
                have Hkq := Lib.hid hkq
                have HB := Lib.hid ((HBu.out.trans HB2.out).trans hB3)
                clear hB3 hv hkq
                have hbl := hRq.lt
                obtain ⟨_, lv, pv, hblk, hlow, hown, hne⟩ := hRq
                have hc1 : w3.cell? ⟨b, 1, none⟩ = some pv := (block_cell hblk 1).trans rfl
                have hf1 := block_free hblk 1
                have Hblk := Lib.hid hblk
                have Hlow := Lib.hid hlow
                have Hown := Lib.hid hown
                have Hne := Lib.hid hne
                clear hblk hlow hown hne
                go_wp2_with (at_builtin; go_must (refine wpList_append_lies _ rfl (.tmp 18) (.tmp 19) 22 rfl base 9 i0 (.string ⟨#[]⟩) 1 16 Tryd.underlying22 hi hz0 hz1 hz2 rfl (by decide) pv q.parts.length (q.parts.map Value.string) rfl (Hown.out.alloc _) ⟨w3.heap.size, 0, none⟩ 1 1 [.string ⟨#[38, 38]⟩] rfl rfl (cell_one_new _ _ _) (by intro u hu; simp at hu; subst hu; rfl) (by decide) (by unfold maxLen; omega) (by omega) (by simp; omega) (w3.heap.size + 1) (by simp) ?_); intro g cap w8 hown8 hgrow8 hat8 hlt8; obtain ⟨⟨hc8, hf8⟩, hR8, hB8⟩ := RdP.push (u := q) hbb Hblk.out Hlow.out Hown.out Hne.out ((Below.refl base w3).alloc (by omega) _) (Below.heap_alloc w3 _ b hbl) hgrow8 hown8 (hat8.imp id (fun h => by omega)); have HR8 := Lib.hid hR8; have HB8 := Lib.hid hB8; clear hown8 hgrow8 hat8 hR8 hB8 hlt8)
                go_roundg (gk - 1)
                case measure => omega
                case rel => exact .inr ⟨c, v, _, rfl, hcf, Hv.out, he.out, HR8.out, by have := Hkq.out; simp only [List.length_append, List.length_singleton]; omega, HB.out.trans HB8.out⟩
              | ok q =>
                have he := Lib.hid ((andsTP_ok hs hb).symm.trans Hlu.out)
                have HM := Lib.hid (fun w2 (h2 : RdP base b { u with left := r } w2) => (show Calls Tryd.prog 67 _ _ _ from HA.out m (by omega) base b _ w2 K h2 hroomr (by simp only; omega) (by rw [hb]; intro h; cases h)))
                rw [hb] at HM
                obtain ⟨hroomq0, hkq0⟩ := hroomr.ok hb
                simp only at hkq0 hkr
                have hroomq : RoomP { q with parts := q.parts ++ [andB] } := ⟨by simp only [List.length_append, List.length_singleton]; have := hroomu.1; omega, hroomq0.2⟩
                have hkq : q.parts.length + q.left.length + 1 ≤ K := by omega
                have hpl : q.parts.length ≤ 4096 := by omega
                have Hroomq := Lib.hid hroomq
                have Hkq := Lib.hid hkq
                clear hs hroomr hb hroomq0 hkq0 hroomq hroomu hku hkr hkq
                go_wp2_with fail
                refine HI.out.mono ?_
                rintro e w2 ⟨rfl, hR2, hB2⟩
                have HR2 := Lib.hid hR2
                have HB2 := Lib.hid hB2
                clear hR2 hB2
                go_wp2_with fail
                refine (HM.out _ HR2.out).mono ?_
                rintro e w3 ⟨v, rfl, ⟨rfl, hRq⟩, hB3⟩
                have HB := Lib.hid ((HBu.out.trans HB2.out).trans hB3)
                clear hB3
                have hbl := hRq.lt
                obtain ⟨_, lv, pv, hblk, hlow, hown, hne⟩ := hRq
                have hc1 : w3.cell? ⟨b, 1, none⟩ = some pv := (block_cell hblk 1).trans rfl
                have hf1 := block_free hblk 1
                have Hblk := Lib.hid hblk
                have Hlow := Lib.hid hlow
                have Hown := Lib.hid hown
                have Hne := Lib.hid hne
                clear hblk hlow hown hne
                go_wp2_with (at_builtin; go_must (refine wpList_append_lies _ rfl (.tmp 18) (.tmp 19) 22 rfl base 9 i0 (.string ⟨#[]⟩) 1 16 Tryd.underlying22 hi hz0 hz1 hz2 rfl (by decide) pv q.parts.length (q.parts.map Value.string) rfl (Hown.out.alloc _) ⟨w3.heap.size, 0, none⟩ 1 1 [.string ⟨#[38, 38]⟩] rfl rfl (cell_one_new _ _ _) (by intro u hu; simp at hu; subst hu; rfl) (by decide) (by unfold maxLen; omega) (by omega) (by simp; omega) (w3.heap.size + 1) (by simp) ?_); intro g cap w8 hown8 hgrow8 hat8 hlt8; obtain ⟨⟨hc8, hf8⟩, hR8, hB8⟩ := RdP.push (u := q) hbb Hblk.out Hlow.out Hown.out Hne.out ((Below.refl base w3).alloc (by omega) _) (Below.heap_alloc w3 _ b hbl) hgrow8 hown8 (hat8.imp id (fun h => by omega)); have HR8 := Lib.hid hR8; have HB8 := Lib.hid hB8; clear hown8 hgrow8 hat8 hR8 hB8 hlt8)
                go_roundg (gk - 1)
                case measure => omega
                case rel => exact .inl ⟨m, _, by omega, by omega, rfl, HR8.out, Hroomq.out, by have := Hkq.out; simp only [List.length_append, List.length_singleton]; omega, he.out, HB.out.trans HB8.out⟩
      · obtain ⟨v1, v2⟩ := nfv hcf hv
        have Hv := Lib.hid hv
        have Hq := Lib.hid hRq
        have Hkq := Lib.hid hkq
        subst hRe
        clear hv hRq hkq hnf
        go_wp2_with fail
        go_ret
        exact ⟨_, rfl, ⟨Hv.out, _, Hq.out, Hkq.out⟩, hBu⟩
theorem orsP_err {n : Nat} {s : StP} {c : Er} (h : lvlP n .ands s = .err c) : lvlP (n + 1) .ors s = .err c := by simp only [lvlP]; rw [h]
theorem orsP_ok {n : Nat} {s t : StP} (h : lvlP n .ands s = .ok t) : lvlP (n + 1) .ors s = lvlP n .orsT t := by simp only [lvlP]; rw [h]
theorem orsTP_no {n : Nat} {s : StP} {r : List ByteArray} (hs : takeP orB s.left = (false, r)) : lvlP (n + 1) .orsT s = .ok { s with left := r } := by simp only [lvlP]; rw [hs]
theorem orsTP_err {n : Nat} {s : StP} {r : List ByteArray} {c : Er} (hs : takeP orB s.left = (true, r)) (h : lvlP n .ands { s with left := r } = .err c) : lvlP (n + 1) .orsT s = .err c := by simp only [lvlP]; rw [hs]; simp only; rw [h]
theorem orsTP_ok {n : Nat} {s t : StP} {r : List ByteArray} (hs : takeP orB s.left = (true, r)) (h : lvlP n .ands { s with left := r } = .ok t) : lvlP (n + 1) .orsT s = lvlP n .orsT { t with parts := t.parts ++ [orB] } := by simp only [lvlP]; rw [hs]; simp only; rw [h]

set_option maxRecDepth 100000 in
set_option maxHeartbeats 2000000 in
theorem ors_p (n : Nat) (hA : ∀ m, m ≤ n → COP m .ands) : COP (n + 1) .ors := by
  intro base b p w k hR hroom hk hnf
  obtain ⟨i0, hi, hz0, hz1, hz2⟩ := info_parts Tryd.info9
  have hbb := hR.1
  have HA := Lib.hid hA
  have hk4 : ∀ j, j ≤ p.parts.length + p.left.length → j ≤ 4096 := fun j h => Nat.le_trans h hroom.1
  obtain ⟨K, hK⟩ : ∃ K, p.parts.length + p.left.length = K := ⟨_, rfl⟩
  have hK4 : K ≤ 4096 := by have := hroom.1; omega
  have hstart : ∀ e w', PEndP base b K (lvlP (n + 1) .ors p) w e w' → PEndP base b k (lvlP (n + 1) .ors p) w e w' := fun e w' h => h.wider (by omega) (Below.refl _ _)
  refine Calls.mono ?_ hstart
  have HN := Lib.hid (fun h => (show Calls Tryd.prog 57 _ _ _ from hA n (Nat.le_refl _) base b p w K hR hroom (by omega) h))
  cases ha : lvlP n .ands p with
  | err c =>
    rw [orsP_err ha] at hnf ⊢
    rw [ha] at HN
    have hcf : c ≠ .fuel := fun h => hnf (by rw [h])
    have HN2 := Lib.hid (HN.out hnf)
    clear hR hroom hnf ha hA hk hK hk4 hstart HN
    show Calls Tryd.prog 45 _ _ _
    go_enter Tryd.func45, Tryd.ntmps45
    go_wp2_with fail
    refine HN2.out.mono ?_
    rintro e w2 ⟨v, rfl, ⟨hv, hq⟩, hB2⟩
    obtain ⟨v1, v2⟩ := nfv hcf hv
    have Hv := Lib.hid hv
    have Hq := Lib.hid hq
    clear hv hq
    go_wp2_with fail
    go_loopg [3] 1 (fun g ev wr => ev = .int .i64 v ∧ w2 = wr)
    case atStart => exact ⟨rfl, rfl⟩
    case round =>
      obtain ⟨rfl, rfl⟩ := hrel
      go_wp2_with fail
      go_ret
      exact ⟨_, rfl, ⟨Hv.out, Hq.out⟩, hB2⟩
  | ok t =>
    have hRm : lvlP (n + 1) .ors p = lvlP n .orsT t := orsP_ok ha
    rw [ha] at HN
    have HN2 := Lib.hid (HN.out (by intro h; cases h))
    obtain ⟨hroomt, hkt⟩ := hroom.ok ha
    rw [hK] at hkt
    rw [hRm] at hnf ⊢
    generalize hRR : lvlP n .orsT t = R at *
    clear hR hroom ha hA hRm hk hK hk4 hstart HN
    show Calls Tryd.prog 45 _ _ _
    go_enter Tryd.func45, Tryd.ntmps45
    go_wp2_with fail
    refine HN2.out.mono ?_
    rintro e w1 ⟨v, rfl, ⟨rfl, hR1⟩, hB1⟩
    go_wp2_with fail
    go_loopg [3] (n + 1) (fun g ev wr => (∃ (m : Nat) (u : StP), m + 1 = g ∧ m ≤ n ∧ ev = .int .i64 0 ∧ RdP base b u wr ∧ RoomP u ∧ u.parts.length + u.left.length ≤ K ∧ lvlP m .orsT u = R ∧ Below base w wr) ∨ (∃ (c : Er) (v : Int) (q : StP), ev = .int .i64 v ∧ c ≠ .fuel ∧ v = errC c ∧ R = .err c ∧ RdP base b q wr ∧ q.parts.length + q.left.length ≤ K ∧ Below base w wr))
    case atStart => exact .inl ⟨n, t, rfl, Nat.le_refl _, rfl, hR1, hroomt, hkt, hRR, hB1⟩
    case round =>
      clear hR1 hroomt hRR hB1 hkt
      rcases hrel with ⟨m, u, hmg, hmn, rfl, hRu, hroomu, hku, hlu, hBu⟩ | ⟨c, v, q, rfl, hcf, hv, hRe, hRq, hkq, hBu⟩
      · have HI := Lib.hid (take_any base b orB u wr hRu)
        unfold TakeEnd at HI
        have Hlu := Lib.hid hlu
        have HBu := Lib.hid hBu
        clear hRu hlu hBu
        cases m with
        | zero => exact absurd Hlu.out.symm hnf
        | succ m =>
          cases hs : takeP orB u.left with
          | mk ok r =>
            rw [hs] at HI
            cases ok with
            | false =>
              have he := Lib.hid (Hlu.out.symm.trans (orsTP_no hs))
              clear hs hroomu hku
              go_wp2_with fail
              refine HI.out.mono ?_
              rintro e w2 ⟨rfl, hR2, hB2⟩
              have HR2 := Lib.hid hR2
              clear hR2
              go_wp2_with fail
              go_ret
              rw [he.out]
              exact ⟨0, rfl, ⟨rfl, HR2.out⟩, HBu.out.trans hB2⟩
            | true =>
              obtain ⟨hroomr, hkr⟩ := hroomu.taken hs
              cases hb : lvlP m .ands { u with left := r } with
              | err c =>
                have he0 := Hlu.out.symm.trans (orsTP_err hs hb)
                have hcf : c ≠ .fuel := fun h => hnf (by rw [he0, h])
                have he := Lib.hid he0
                have HM := Lib.hid (fun w2 (h2 : RdP base b { u with left := r } w2) => (show Calls Tryd.prog 57 _ _ _ from HA.out m (by omega) base b _ w2 (K - 1) h2 hroomr (by simp only; omega) (by rw [hb]; intro h; cases h; exact hcf rfl)))
                rw [hb] at HM
                have hK1 : 1 ≤ K := by omega
                clear hs hroomr hb he0 hroomu hku hkr
                go_wp2_with fail
                refine HI.out.mono ?_
                rintro e w2 ⟨rfl, hR2, hB2⟩
                have HR2 := Lib.hid hR2
                have HB2 := Lib.hid hB2
                clear hR2 hB2
                go_wp2_with fail
                refine (HM.out _ HR2.out).mono ?_
                rintro e w3 ⟨v, rfl, ⟨hv, q, hRq, hkq⟩, hB3⟩
                have hpl : q.parts.length ≤ 4096 := by omega
                have Hv := Lib.hid hv
                have Hkq := Lib.hid hkq
                have HB := Lib.hid ((HBu.out.trans HB2.out).trans hB3)
                clear hB3 hv hkq
                have hbl := hRq.lt
                obtain ⟨_, lv, pv, hblk, hlow, hown, hne⟩ := hRq
                have hc1 : w3.cell? ⟨b, 1, none⟩ = some pv := (block_cell hblk 1).trans rfl
                have hf1 := block_free hblk 1
                have Hblk := Lib.hid hblk
                have Hlow := Lib.hid hlow
                have Hown := Lib.hid hown
                have Hne := Lib.hid hne
                clear hblk hlow hown hne
                go_wp2_with (at_builtin; go_must (refine wpList_append_lies _ rfl (.tmp 18) (.tmp 19) 22 rfl base 9 i0 (.string ⟨#[]⟩) 1 16 Tryd.underlying22 hi hz0 hz1 hz2 rfl (by decide) pv q.parts.length (q.parts.map Value.string) rfl (Hown.out.alloc _) ⟨w3.heap.size, 0, none⟩ 1 1 [.string ⟨#[124, 124]⟩] rfl rfl (cell_one_new _ _ _) (by intro u hu; simp at hu; subst hu; rfl) (by decide) (by unfold maxLen; omega) (by omega) (by simp; omega) (w3.heap.size + 1) (by simp) ?_); intro g cap w8 hown8 hgrow8 hat8 hlt8; obtain ⟨⟨hc8, hf8⟩, hR8, hB8⟩ := RdP.push (u := q) hbb Hblk.out Hlow.out Hown.out Hne.out ((Below.refl base w3).alloc (by omega) _) (Below.heap_alloc w3 _ b hbl) hgrow8 hown8 (hat8.imp id (fun h => by omega)); have HR8 := Lib.hid hR8; have HB8 := Lib.hid hB8; clear hown8 hgrow8 hat8 hR8 hB8 hlt8)
                go_roundg (gk - 1)
                case measure => omega
                case rel => exact .inr ⟨c, v, _, rfl, hcf, Hv.out, he.out, HR8.out, by have := Hkq.out; simp only [List.length_append, List.length_singleton]; omega, HB.out.trans HB8.out⟩
              | ok q =>
                have he := Lib.hid ((orsTP_ok hs hb).symm.trans Hlu.out)
                have HM := Lib.hid (fun w2 (h2 : RdP base b { u with left := r } w2) => (show Calls Tryd.prog 57 _ _ _ from HA.out m (by omega) base b _ w2 K h2 hroomr (by simp only; omega) (by rw [hb]; intro h; cases h)))
                rw [hb] at HM
                obtain ⟨hroomq0, hkq0⟩ := hroomr.ok hb
                simp only at hkq0 hkr
                have hroomq : RoomP { q with parts := q.parts ++ [orB] } := ⟨by simp only [List.length_append, List.length_singleton]; have := hroomu.1; omega, hroomq0.2⟩
                have hkq : q.parts.length + q.left.length + 1 ≤ K := by omega
                have hpl : q.parts.length ≤ 4096 := by omega
                have Hroomq := Lib.hid hroomq
                have Hkq := Lib.hid hkq
                clear hs hroomr hb hroomq0 hkq0 hroomq hroomu hku hkr hkq
                go_wp2_with fail
                refine HI.out.mono ?_
                rintro e w2 ⟨rfl, hR2, hB2⟩
                have HR2 := Lib.hid hR2
                have HB2 := Lib.hid hB2
                clear hR2 hB2
                go_wp2_with fail
                refine (HM.out _ HR2.out).mono ?_
                rintro e w3 ⟨v, rfl, ⟨rfl, hRq⟩, hB3⟩
                have HB := Lib.hid ((HBu.out.trans HB2.out).trans hB3)
                clear hB3
                have hbl := hRq.lt
                obtain ⟨_, lv, pv, hblk, hlow, hown, hne⟩ := hRq
                have hc1 : w3.cell? ⟨b, 1, none⟩ = some pv := (block_cell hblk 1).trans rfl
                have hf1 := block_free hblk 1
                have Hblk := Lib.hid hblk
                have Hlow := Lib.hid hlow
                have Hown := Lib.hid hown
                have Hne := Lib.hid hne
                clear hblk hlow hown hne
                go_wp2_with (at_builtin; go_must (refine wpList_append_lies _ rfl (.tmp 18) (.tmp 19) 22 rfl base 9 i0 (.string ⟨#[]⟩) 1 16 Tryd.underlying22 hi hz0 hz1 hz2 rfl (by decide) pv q.parts.length (q.parts.map Value.string) rfl (Hown.out.alloc _) ⟨w3.heap.size, 0, none⟩ 1 1 [.string ⟨#[124, 124]⟩] rfl rfl (cell_one_new _ _ _) (by intro u hu; simp at hu; subst hu; rfl) (by decide) (by unfold maxLen; omega) (by omega) (by simp; omega) (w3.heap.size + 1) (by simp) ?_); intro g cap w8 hown8 hgrow8 hat8 hlt8; obtain ⟨⟨hc8, hf8⟩, hR8, hB8⟩ := RdP.push (u := q) hbb Hblk.out Hlow.out Hown.out Hne.out ((Below.refl base w3).alloc (by omega) _) (Below.heap_alloc w3 _ b hbl) hgrow8 hown8 (hat8.imp id (fun h => by omega)); have HR8 := Lib.hid hR8; have HB8 := Lib.hid hB8; clear hown8 hgrow8 hat8 hR8 hB8 hlt8)
                go_roundg (gk - 1)
                case measure => omega
                case rel => exact .inl ⟨m, _, by omega, by omega, rfl, HR8.out, Hroomq.out, by have := Hkq.out; simp only [List.length_append, List.length_singleton]; omega, he.out, HB.out.trans HB8.out⟩
      · obtain ⟨v1, v2⟩ := nfv hcf hv
        have Hv := Lib.hid hv
        have Hq := Lib.hid hRq
        have Hkq := Lib.hid hkq
        subst hRe
        clear hv hRq hkq hnf
        go_wp2_with fail
        go_ret
        exact ⟨_, rfl, ⟨Hv.out, _, Hq.out, Hkq.out⟩, hBu⟩
theorem all_p : ∀ n, COP n .part ∧ COP n .nots ∧ COP n .ands ∧ COP n .ors := by
  intro n
  induction n using Nat.strongRecOn with
  | _ n ih =>
    have h1 : COP n .part := part_p n (fun m hm => (ih m (by omega)).2.2.2)
    cases n with
    | zero =>
      have h0 : ∀ L, COP 0 L := fun L base b s w k _ _ _ h => absurd rfl h
      exact ⟨h0 _, h0 _, h0 _, h0 _⟩
    | succ n => exact ⟨h1, nots_p n (ih n (by omega)).1, ands_p n (fun m hm => (ih m (by omega)).2.1), ors_p n (fun m hm => (ih m (by omega)).2.2.1)⟩
end Go.Proofs.YtfkmijdpcenieaaDoor
