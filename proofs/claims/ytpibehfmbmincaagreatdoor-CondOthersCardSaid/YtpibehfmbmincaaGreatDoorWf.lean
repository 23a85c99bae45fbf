/- Walks: the reader's part. -/
import Derived.Test.YtpibehfmbmincaaGreatDoorWd
import Derived.Deep.AppendLies
import Derived.Deep.RegionLaw
import Derived.BigRegion
namespace Go.Proofs.YtpibehfmbmincaaGreatDoor
set_option linter.unusedVariables false
open Go.ChangeShapes Go.WideShapes Go.ChangeAt Go.RowKit

def errC : Er → Int | .form => 4 | .deep => 8 | .fuel => 0
def PR (base b : Nat) : Rs → Int → World → Prop
  | .ok t, v, w' => v = 0 ∧ Rd base b t w'
  | .err c, v, w' => v = errC c
def PEnd (base b : Nat) (r : Rs) (w : World) (e : Ending) (w' : World) : Prop := ∃ v, e = .returned (.int .i64 v) ∧ PR base b r v w' ∧ Below base w w'
def fnOf : Lv → Nat | .ors => 60 | .ands => 77 | .nots => 96 | .part => 106 | .inner => 113 | _ => 0
def Room (s : St) : Prop := s.parts.length + s.rest.length ≤ 4096 ∧ s.deep ≤ 64
def CO (n : Nat) (L : Lv) : Prop := ∀ (base b : Nat) (s : St) (w : World), Rd base b s w → Room s → lvl n L s ≠ .err .fuel → Calls Tryz.prog (fnOf L) #[.pointer (some ⟨b, 0, none⟩)] w (PEnd base b (lvl n L s) w)

theorem Rd.push {base b : Nat} {s : St} {w w1 : World} {x : ByteArray} {pv v' : Value} (h0 : base ≤ b) (h1 : w.heap[b]? = some (.cells #[.string (mkB s.rest), pv, .int .i64 (s.deep : Nat)] 88 (0, 0))) (h3 : pv.ownBlock ≠ some b)
    (hg : w.grownBy w1 pv.ownBlock) (hown : w1.ownsRow base 9 1 v' (s.parts.length + 1) (s.parts.map Value.string ++ [.string x])) (hn : v'.ownBlock ≠ some b) :
    Rd base b { s with parts := s.parts ++ [x] } (w1.setCell ⟨b, 1, none⟩ v') := by
  have hb1 : w1.heap[b]? = w.heap[b]? := hg.block b (lt_of_block h1) (by intro e; exact h3 e.symm)
  refine ⟨h0, v', block_set (hb1.trans h1), ?_, hn⟩
  have := own_set (i := 1) (u := v') hown hn
  simpa using this
theorem app_keep {w w3 : World} {b : Nat} {X : Obj} {o : Obj} {row : Option Nat} (h : w.heap[b]? = some X) (hg : (w.alloc o).grownBy w3 row) (hr : row ≠ some b) : w3.heap[b]? = some X := by
  have hl : b < w.heap.size := by
    rcases Nat.lt_or_ge b w.heap.size with h' | h'
    · exact h'
    · rw [Array.getElem?_eq_none h'] at h; cases h
  have h2 : (w.alloc o).heap[b]? = w.heap[b]? := (World.grownBy_alloc w o none).block b hl (by simp)
  rw [hg.block b (by simp; omega) (fun e => hr e.symm), h2, h]
theorem app_keep' {w w3 : World} {b : Nat} {X : Obj} {o : Obj} {row : Option Nat} (h : w.heap[b]? = some X) (hg : (w.alloc o).drew.grownBy w3 row) (hr : row ≠ some b) : w3.heap[b]? = some X := by
  have hl : b < w.heap.size := by
    rcases Nat.lt_or_ge b w.heap.size with h' | h'
    · exact h'
    · rw [Array.getElem?_eq_none h'] at h; cases h
  have h2 : (w.alloc o).heap[b]? = w.heap[b]? := (World.grownBy_alloc w o none).block b hl (by simp)
  have h3 := hg.block b (show b < (w.alloc o).heap.size by simp; omega) (fun e => hr e.symm)
  rw [h3]
  show (w.alloc o).heap[b]? = _
  rw [h2, h]
theorem part_nf {n : Nat} {s : St} {r : List UInt8} (hs : isS [40] s.rest = (false, r)) : lvl (n + 1) .part s = if (r.takeWhile tagC) = [] then .err .form else .ok { rest := r.drop (r.takeWhile tagC).length, parts := s.parts ++ [mkB (r.takeWhile tagC)], deep := s.deep } := by
  simp only [lvl]; rw [hs]
theorem part_yes {n : Nat} {s : St} {r : List UInt8} (hs : isS [40] s.rest = (true, r)) : lvl (n + 1) .part s = lvl n .inner { s with rest := r } := by
  simp only [lvl]; rw [hs]

set_option maxRecDepth 100000 in
set_option maxHeartbeats 2000000 in
theorem part_co (n : Nat) (hI : CO n .inner) : CO (n + 1) .part := by
  intro base b s w hR hroom hnf
  obtain ⟨i0, hi, hz0, hz1, hz2⟩ := info_parts Tryz.info9
  have HI := Lib.hid (is_any base b [40] s w hR)
  have hbb := hR.1
  cases hs : isS [40] s.rest with
  | mk ok r =>
    have hlen := isS_len hs
    cases ok with
    | true =>
      rw [part_yes hs] at hnf ⊢
      have HN := Lib.hid (fun w1 (h1 : Rd base b { s with rest := r } w1) => hI base b { s with rest := r } w1 h1 ⟨by have := hroom.1; simp only; omega, hroom.2⟩ hnf)
      unfold IsEnd at HI
      rw [hs] at HI
      generalize lvl n .inner { s with rest := r } = R at *
      clear hR hroom hnf hs
      show Calls Tryz.prog 106 _ _ _
      go_enter Tryz.func106, Tryz.ntmps106
      go_wp2_with fail
      refine HI.out.mono ?_
      rintro e w1 ⟨rfl, hR1, hB1⟩
      have HR1 := Lib.hid hR1
      have HB1 := Lib.hid hB1
      clear hR1 hB1
      go_wp2_with fail
      refine (HN.out _ HR1.out).mono ?_
      rintro e w2 ⟨v, rfl, hp, hB2⟩
      go_wp2_with fail
      go_ret
      exact ⟨v, rfl, hp, HB1.out.trans hB2⟩
    | false =>
      rw [part_nf hs] at hnf ⊢
      unfold IsEnd at HI
      rw [hs] at HI
      clear hnf hs
      have HE := Lib.hid (fun w1 => tagEnd_any (mkB r) w1 (by rw [mkB_size]; have := hroom.1; omega))
      rw [mkB_toList] at HE
      by_cases ht : r.takeWhile tagC = []
      · rw [if_pos ht]
        have he : endN r = 0 := by unfold endN; rw [ht]; rfl
        rw [he] at HE
        show Calls Tryz.prog 106 _ _ _
        go_enter Tryz.func106, Tryz.ntmps106
        go_wp2_with fail
        refine HI.out.mono ?_
        rintro e w1 ⟨rfl, hR1, hB1⟩
        have hc1 := hR1.cells.1
        simp only at hc1
        have HB1 := Lib.hid hB1
        clear hR1 hB1
        go_wp2_with fail
        refine (HE.out _).mono ?_
        rintro e w2 ⟨rfl, rfl⟩
        go_wp2_with fail
        go_ret
        exact ⟨4, rfl, rfl, HB1.out⟩
      · rw [if_neg ht]
        have he1 : 0 < endN r := List.length_pos_iff.2 ht
        have he2 := endN_le r
        have hx1 : (mkB r).extract 0 (endN r) = mkB (r.takeWhile tagC) := by
          apply ba_ext; rw [Lib.extract_data, mkB_toList, mkB_toList, List.drop_zero, Nat.sub_zero]
          unfold endN
          exact (List.prefix_iff_eq_take.1 (List.takeWhile_prefix _)).symm
        have hx2 : (mkB r).extract (endN r) (mkB r).size = mkB (r.drop (endN r)) := by
          apply ba_ext; rw [Lib.extract_data, mkB_toList, mkB_toList, mkB_size]
          rw [List.take_of_length_le (by rw [List.length_drop]; exact Nat.le_refl _)]
        have hsz : (mkB r).size ≤ 4096 := by rw [mkB_size]; have := hroom.1; omega
        have hlen2 : endN r ≤ (mkB r).size := by rw [mkB_size]; exact he2
        have hpl : s.parts.length ≤ 4096 := by have := hroom.1; omega
        have Hfin := Lib.hid (show ∀ w', Rd base b { rest := r.drop (endN r), parts := s.parts ++ [mkB (r.takeWhile tagC)], deep := s.deep } w' → Below base w w' → PEnd base b (.ok { rest := r.drop (r.takeWhile tagC).length, parts := s.parts ++ [mkB (r.takeWhile tagC)], deep := s.deep }) w (.returned (.int .i64 0)) w' from fun w' h1 h2 => ⟨0, rfl, ⟨rfl, h1⟩, h2⟩)
        have Hx1 := Lib.hid hx1
        have Hx2 := Lib.hid hx2
        clear hx1 hx2 ht hR hroom
        generalize mkB (r.takeWhile tagC) = x at *
        obtain ⟨k, hk⟩ : ∃ k, endN r = k := ⟨_, rfl⟩
        rw [hk] at he1 he2 HE Hfin Hx1 Hx2 hlen2
        clear hk
        have Hz := Lib.hid (show mkB (r.drop k) = mkB (r.drop k) from rfl)
        obtain ⟨q, hq⟩ : ∃ q, mkB r = q := ⟨_, rfl⟩
        rw [hq] at HE Hx1 Hx2 hsz hlen2
        have Hq := Lib.hid hq
        clear hq
        show Calls Tryz.prog 106 _ _ _
        go_enter Tryz.func106, Tryz.ntmps106
        go_wp2_with fail
        refine HI.out.mono ?_
        rintro e w1 ⟨rfl, hR1, hB1⟩
        obtain ⟨_, pv, hblk, hown, hne⟩ := hR1
        simp only at hblk hown
        rw [Hq.out] at hblk
        have hc0 : w1.cell? ⟨b, 0, none⟩ = some (.string q) := by rw [block_cell hblk]; rfl
        have hc1 : w1.cell? ⟨b, 1, none⟩ = some pv := by rw [block_cell hblk]; rfl
        have hf0 := block_free hblk 0
        have hf1 := block_free hblk 1
        have hbl := lt_of_block hblk
        have HB1 := Lib.hid hB1
        have Hblk := Lib.hid hblk
        have Hown := Lib.hid hown
        have Hne := Lib.hid hne
        clear hB1 hblk hown hne
        go_wp2_with fail
        refine (HE.out _).mono ?_
        rintro e w2 ⟨rfl, rfl⟩
        go_wp2_with fail
        go_region_law (refine step_append_lies _ rfl (.tmp 19) (.tmp 26) 22 rfl base 9 i0 (.string ⟨#[]⟩) 1 16 Tryz.underlying22 hi hz0 hz1 hz2 rfl (by decide) pv s.parts.length (s.parts.map Value.string) (by simp [Act.eval]) (Hown.out.alloc _) ⟨w1.heap.size, 0, none⟩ 1 1 [.string (q.extract 0 k)] (by simp [Act.eval]) rfl (cell_one_new _ _ _) (by intro u hu; simp at hu; subst hu; rfl) (by decide) (by unfold maxLen; omega) (by omega) (by simp; omega) (w1.heap.size + 1) (by simp) ?_; intro g cap w3 hown3 hgrow3 hat3 hlt3; have hblk3 := app_keep' Hblk.out hgrow3 Hne.out; have hc3 : w3.cell? ⟨b, 1, none⟩ = some pv := (block_cell hblk3 1).trans rfl; have hf3 := block_free hblk3 1; have Hblk3 := Lib.hid hblk3; have Hown3 := Lib.hid hown3; have Hgrow3 := Lib.hid hgrow3; have Hat3 := Lib.hid hat3; clear hblk3 hown3 hgrow3 hat3)
        all_goals
          have hne3 : (Value.slice (some ⟨g, 0, none⟩) (s.parts.length + 1) cap).ownBlock ≠ some b := by
            intro e
            have e2 : g = b := by simpa [Value.ownBlock] using e
            rcases Hat3.out with h | h
            · exact Hne.out (h.trans (by rw [e2]))
            · omega
          have hR4 : Rd base b { rest := r, parts := s.parts ++ [x], deep := s.deep } (w3.setCell ⟨b, 1, none⟩ (.slice (some ⟨g, 0, none⟩) (s.parts.length + 1) cap)) := by
            have ho := own_set (i := 1) (u := Value.slice (some ⟨g, 0, none⟩) (s.parts.length + 1) cap) Hown3.out hne3
            rw [Hx1.out] at ho
            refine ⟨hbb, _, ?_, by simpa using ho, hne3⟩
            simp only [Hq.out]
            exact block_set Hblk3.out
          have hB4 : Below base w (w3.setCell ⟨b, 1, none⟩ (.slice (some ⟨g, 0, none⟩) (s.parts.length + 1) cap)) := by
            have hBs : base ≤ w1.heap.size := by omega
            have h1 := (HB1.out.alloc hBs (Obj.cells #[Value.string (q.extract 0 k)] 9)).drew
            exact (h1.grown Hgrow3.out (by show base ≤ (w1.alloc _).heap.size; simp; omega) (fun j hj => (Hown.out.lt j hj).1)).setCell hbb _
          have HR4 := Lib.hid hR4
          have HB4 := Lib.hid hB4
          clear hR4 hB4 hc0 hc1 hf0 hf1 hc3 hf3 Hgrow3 Hat3 Hown3 Hblk3 hne3 hlt3
          generalize w3.setCell ⟨b, 1, none⟩ (.slice (some ⟨g, 0, none⟩) (s.parts.length + 1) cap) = w4 at *
          have hc0 := HR4.out.cells.1
          have hf0 := HR4.out.cells.2
          simp only at hc0
          rw [Hq.out] at hc0
          go_wp2_with fail
          go_ret
          refine Hfin.out _ ?_ (HB4.out.setCell hbb _)
          rw [Hx2.out]
          exact HR4.out.rest (r.drop k)
end Go.Proofs.YtpibehfmbmincaaGreatDoor
