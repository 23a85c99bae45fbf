/- The document's device: Good, Free, may, act, drop, put. -/
import Derived.Test.YtfmcemedaehcoaaXb
namespace Go.Proofs.Ytfmcemedaehcoaa
set_option linter.unusedVariables false
set_option linter.unusedSimpArgs false
open Go.ChangeShapes Go.WideShapes Go.ChangeAt Go.RowKit Go.ChangeMaps

set_option maxRecDepth 100000 in
set_option maxHeartbeats 1000000 in
theorem good_any (x : ByteArray) (w : World) : Calls Try.prog 57 #[.string x] w fun e w' => e = .returned (.bool (goodN x)) ∧ w = w' := by
  have e : goodN x = (decide (1 ≤ x.size) && decide (x.size ≤ 32)) := rfl
  by_cases h1 : 1 ≤ x.size
  · by_cases h2 : x.size ≤ 32
    · rw [e, decide_eq_true h1, decide_eq_true h2]
      have g1 : decide (1 ≤ (x.size : Int)) = true := decide_eq_true (by omega)
      have g2 : decide ((x.size : Int) ≤ 32) = true := decide_eq_true (by omega)
      clear e
      go_enter Try.func57, Try.ntmps57
      go_wp2_with fail
      go_ret
      exact ⟨rfl, rfl⟩
    · rw [e, decide_eq_true h1, decide_eq_false h2]
      have g1 : decide (1 ≤ (x.size : Int)) = true := decide_eq_true (by omega)
      have g2 : decide ((x.size : Int) ≤ 32) = false := decide_eq_false (by omega)
      clear e
      go_enter Try.func57, Try.ntmps57
      go_wp2_with fail
      go_ret
      exact ⟨rfl, rfl⟩
  · rw [e, decide_eq_false h1]
    have g1 : decide (1 ≤ (x.size : Int)) = false := decide_eq_false (by omega)
    clear e
    go_enter Try.func57, Try.ntmps57
    go_wp2_with fail
    go_ret
    exact ⟨rfl, rfl⟩
theorem tot_take {A : List Ab} {i : Nat} (hi : i < A.length) : totA (A.take (i + 1)) = totA (A.take i) + A[i].2.1.length := by
  unfold totA
  rw [List.take_succ_eq_append_getElem hi, List.map_append, List.sum_append]
  simp
theorem tot_take_le (A : List Ab) (i : Nat) : totA (A.take i) ≤ totA A := by
  have h : totA A = totA (A.take i) + totA (A.drop i) := by
    conv => lhs; rw [← List.take_append_drop i A]
    unfold totA
    rw [List.map_append, List.sum_append]
  omega
set_option maxRecDepth 100000 in
set_option maxHeartbeats 1000000 in
theorem freeR_any {S : Nat → Prop} {w0 : World} {b : Nat} {h : Hd} {A : List Ab} {w : World} (d : Rd S w0 b h A w) (hr : 0 ≤ h.room ∧ h.room ≤ 1048576) (ht : totA A ≤ 1048576) (hn : A.length ≤ 1048576) :
    Calls Try.prog 18 #[.pointer (some ⟨b, 0, none⟩)] w fun e w' => e = .returned (.int .i64 (h.room - (totA A : Nat))) ∧ Below w.heap.size w w' := by
  obtain ⟨v, hb, hl, _⟩ := d.r
  obtain ⟨p, c, rfl⟩ := hl.shape
  have c0 : w.cell? ⟨b, 0, none⟩ = some (.slice p A.length c) := block_cell hb 0
  have c1 : w.cell? ⟨b, 1, none⟩ = some (.int .i64 h.room) := block_cell hb 1
  have HL := Lib.hid hl
  have HT := Lib.hid ht
  generalize h.room = r at *
  clear hl hb d ht
  go_enter Try.func18, Try.ntmps18
  go_wp2_with fail
  go_loopg [3, 15] A.length (fun gg vr vi wr => ∃ (i t : Nat), vi = .int .i64 i ∧ vr = .int .i64 (r - (t : Nat)) ∧ i + gg = A.length ∧ t = totA (A.take i) ∧ Below w.heap.size w wr)
  case atStart => exact ⟨0, 0, rfl, by simp, by omega, by simp [totA], Below.refl _ _⟩
  case round =>
    obtain ⟨i, t, rfl, rfl, hig, htt, hB⟩ := hrel
    have htl : t ≤ 1048576 := by have := tot_take_le A i; have := HT.out; omega
    by_cases hlt : i < A.length
    · have hltI : (i : Int) < (A.length : Nat) := by omega
      obtain ⟨g, o, c', he, hg, hc, hrg, hob⟩ := HL.out.file hlt
      injection he with he1 _ he2
      subst he1 he2
      have Hrg := Lib.hid (range_below hrg hB hg)
      have Htt := Lib.hid (show t + A[i].2.1.length = totA (A.take (i + 1)) by rw [tot_take hlt, htt])
      have hyl : A[i].2.1.length ≤ 1048576 := by have := tot_le (List.getElem_mem hlt); have := HT.out; omega
      have HB := Lib.hid hB
      generalize A[i] = y at *
      have hyS : (mkB y.2.1).size = y.2.1.length := mkB_size _
      clear hrg hB htt
      go_wp2_with (first | (refine wpList_load_mid rfl 68 (.tmp 17) rfl g (o + i * 3) rfl (fV y) _ Hrg.out Try.underlying68 rfl (by rw [fV_len]; kernel_rfl) ?_) | (refine wpList_store_rowTo rfl 68 (.tmp 5) (.tmp 18) rfl rfl wr.heap.size (fV y).toArray rfl rfl 68 _ (heap_alloc_new wr _) (fV_size y) rfl (fV_all y) ?_; refine box_absL (boxL_made wr _ (fV y)) ?_; intro wx hbx; have HBx := Lib.hid hbx; have d1 : wx.cell? ⟨wr.heap.size, 1, none⟩ = some (.string (mkB y.2.1)) := block_cell hbx.h 1; clear hbx))
      go_roundg (gk - 1)
      case measure => omega
      case rel => exact ⟨i + 1, t + y.2.1.length, by go_num, by congr 1; omega, by omega, Htt.out, HB.out.trans (HBx.out.b.mono HB.out.size)⟩
    · have hltI : ¬ (i : Int) < (A.length : Nat) := by omega
      have hti : t = totA A := by rw [htt, List.take_of_length_le (by omega)]
      have HTI := Lib.hid hti
      clear hti htt
      go_wp2_with fail
      go_ret
      exact ⟨by rw [← HTI.out]; rfl, hB⟩
set_option maxRecDepth 100000 in
set_option maxHeartbeats 1000000 in
theorem may_free {S : Nat → Prop} {w0 : World} {b : Nat} {h : Hd} {A : List Ab} {w : World} (d : Rd S w0 b h A w) (x : ByteArray) :
    Calls Try.prog 42 #[.pointer (some ⟨b, 0, none⟩), .string x, .bool false] w fun e w' => e = .returned (.int .i64 (readyE h x)) ∧ w = w' := by
  obtain ⟨v, hb, _, _⟩ := d.r
  have c2 : w.cell? ⟨b, 2, none⟩ = some (.bool h.down) := block_cell hb 2
  have HN := Lib.hid (fun w1 => good_any x w1)
  unfold readyE
  generalize h.down = dn at *
  clear hb d
  cases dn
  · rw [if_neg (by decide)]
    generalize goodN x = gx at *
    cases gx
    · rw [if_neg (by decide)]
      go_enter Try.func42, Try.ntmps42
      go_wp2_with fail
      refine (HN.out _).mono ?_
      rintro e w1 ⟨rfl, rfl⟩
      go_wp2_with fail
      go_ret
      exact ⟨rfl, rfl⟩
    · rw [if_pos rfl]
      go_enter Try.func42, Try.ntmps42
      go_wp2_with fail
      refine (HN.out _).mono ?_
      rintro e w1 ⟨rfl, rfl⟩
      go_wp2_with fail
      go_ret
      exact ⟨rfl, rfl⟩
  · rw [if_pos rfl]
    go_enter Try.func42, Try.ntmps42
    go_wp2_with fail
    go_ret
    exact ⟨rfl, rfl⟩
set_option maxRecDepth 100000 in
set_option maxHeartbeats 1000000 in
theorem may_there {S : Nat → Prop} {w0 : World} {b : Nat} {h : Hd} {A : List Ab} {w : World} (d : Rd S w0 b h A w) (hn : A.length ≤ 1048576) (x : ByteArray) :
    Calls Try.prog 42 #[.pointer (some ⟨b, 0, none⟩), .string x, .bool true] w fun e w' => e = .returned (.int .i64 (findA h A x)) ∧ Below w.heap.size w w' := by
  obtain ⟨v, hb, hl, _⟩ := d.r
  have c2 : w.cell? ⟨b, 2, none⟩ = some (.bool h.down) := block_cell hb 2
  have HN := Lib.hid (fun w1 => good_any x w1)
  have HA := Lib.hid (at_any hb hl hn x)
  have hR := Lib.hid (Below.refl w.heap.size w)
  unfold findA readyE
  generalize h.down = dn at *
  clear hb d hl
  cases dn
  · generalize goodN x = gx at *
    cases gx
    · rw [if_pos (by simp)]
      go_enter Try.func42, Try.ntmps42
      go_wp2_with fail
      refine (HN.out _).mono ?_
      rintro e w1 ⟨rfl, rfl⟩
      go_wp2_with fail
      go_ret
      exact ⟨by simp, hR.out⟩
    · rw [if_neg (by simp)]
      rcases @idx_look A x with ⟨h1, h2⟩ | ⟨i, hi, h1, h2, h3⟩
      · rw [h1] at HA
        rw [h2]
        have hlt : decide ((-1 : Int) < 0) = true := by decide
        clear h1 h2
        go_enter Try.func42, Try.ntmps42
        go_wp2_with fail
        refine (HN.out _).mono ?_
        rintro e w1 ⟨rfl, rfl⟩
        go_wp2_with fail
        refine HA.out.mono ?_
        rintro e w1 ⟨rfl, hB⟩
        have HB := Lib.hid hB
        clear hB
        go_wp2_with fail
        go_ret
        exact ⟨by simp, HB.out⟩
      · rw [h1] at HA
        rw [h2, Option.isSome_some, if_pos rfl]
        have hlt : decide ((i : Int) < 0) = false := decide_eq_false (by omega)
        clear h1 h2 h3
        go_enter Try.func42, Try.ntmps42
        go_wp2_with fail
        refine (HN.out _).mono ?_
        rintro e w1 ⟨rfl, rfl⟩
        go_wp2_with fail
        refine HA.out.mono ?_
        rintro e w1 ⟨rfl, hB⟩
        have HB := Lib.hid hB
        clear hB
        go_wp2_with fail
        go_ret
        exact ⟨by simp, HB.out⟩
  · rw [if_pos (by simp)]
    go_enter Try.func42, Try.ntmps42
    go_wp2_with fail
    go_ret
    exact ⟨by simp, hR.out⟩
/-- An act counts: whether the power goes in it. -/
def actH (h : Hd) : Hd := ⟨h.room, h.acts + 1, h.down, max (h.left - 1) 0, h.keep, h.torn⟩
set_option maxRecDepth 100000 in
set_option maxHeartbeats 1000000 in
theorem actR_any {S : Nat → Prop} {w0 : World} {b : Nat} {h : Hd} {A : List Ab} {w : World} (d : Rd S w0 b h A w) (hl : 0 ≤ h.left ∧ h.left ≤ 9223372036854775807) (ha : 0 ≤ h.acts ∧ h.acts ≤ 1099511627776) :
    Calls Try.prog 53 #[.pointer (some ⟨b, 0, none⟩)] w fun e w' => e = .returned (.bool (decide (h.left = 1))) ∧ Rd S w0 b (actH h) A w' ∧ w'.heap.size = w.heap.size := by
  obtain ⟨v, hb, _, _⟩ := d.r
  obtain ⟨room, acts, down, left, keep, torn⟩ := h
  have c3 : w.cell? ⟨b, 3, none⟩ = some (.int .i64 acts) := block_cell hb 3
  have f3 := block_free hb 3
  have hb1 := block_set (i := 3) (u := .int .i64 (acts + 1)) hb
  have c4 : w.cell? ⟨b, 4, none⟩ = some (.int .i64 left) := block_cell hb 4
  have c4b : (w.setCell ⟨b, 3, none⟩ (.int .i64 (acts + 1))).cell? ⟨b, 4, none⟩ = some (.int .i64 left) := block_cell hb1 4
  have f4 := block_free hb1 4
  have D1 := Lib.hid (d.set (h' := ⟨room, acts + 1, down, left, keep, torn⟩) 3 (.int .i64 (acts + 1)) (fun v => rfl))
  have hb2 := block_set (i := 4) (u := .int .i64 (left - 1)) hb1
  have c4c : ((w.setCell ⟨b, 3, none⟩ (.int .i64 (acts + 1))).setCell ⟨b, 4, none⟩ (.int .i64 (left - 1))).cell? ⟨b, 4, none⟩ = some (.int .i64 (left - 1)) := block_cell hb2 4
  have D2 := Lib.hid (D1.out.set (h' := ⟨room, acts + 1, down, left - 1, keep, torn⟩) 4 (.int .i64 (left - 1)) (fun v => rfl))
  have HZ1 : Hid ((w.setCell ⟨b, 3, none⟩ (.int .i64 (acts + 1))).heap.size = w.heap.size) := Lib.hid (setCell_size _ _ _)
  have HZ2 : Hid (((w.setCell ⟨b, 3, none⟩ (.int .i64 (acts + 1))).setCell ⟨b, 4, none⟩ (.int .i64 (left - 1))).heap.size = w.heap.size) := Lib.hid (by rw [setCell_size, setCell_size])
  simp only at hl ha
  unfold actH
  simp only
  clear d hb hb1 hb2
  by_cases h0 : left = 0
  · subst h0
    rw [show decide ((0 : Int) = 1) = false from rfl, show max ((0 : Int) - 1) 0 = 0 from rfl]
    go_enter Try.func53, Try.ntmps53
    go_wp2_with fail
    go_ret
    exact ⟨rfl, D1.out, HZ1.out⟩
  · have hm : max (left - 1) 0 = left - 1 := by omega
    rw [hm]
    have g0 : (left == 0) = false := by simpa using h0
    by_cases h1 : left = 1
    · have g1 : (left - 1 == 0) = true := by rw [beq_iff_eq]; omega
      rw [decide_eq_true h1]
      have hl1 : 1 ≤ left := by omega
      clear h1 h0 hm
      go_enter Try.func53, Try.ntmps53
      go_wp2_with fail
      go_ret
      exact ⟨rfl, D2.out, HZ2.out⟩
    · have g1 : (left - 1 == 0) = false := by rw [beq_eq_false_iff_ne]; omega
      rw [decide_eq_false h1]
      have hl1 : 1 ≤ left := by omega
      clear h1 h0 hm
      go_enter Try.func53, Try.ntmps53
      go_wp2_with fail
      go_ret
      exact ⟨rfl, D2.out, HZ2.out⟩
end Go.Proofs.Ytfmcemedaehcoaa
