/- Walks: one piece further over a name. -/
import Derived.Test.YtaaggfccbbimbaaWf
namespace Go.Proofs.Ytaaggfccbbimbaa
set_option linter.unusedVariables false
set_option linter.unusedSimpArgs false
open Go.ChangeShapes Go.WideShapes Go.ChangeAt Go.RowKit

theorem has_any (pc : Pc) (b : UInt8) (n : Int) (hn : n = b.toNat) (sv : Value) (lim : Nat) (w : World) (h : Spans lim w sv pc.spans) (hlim : lim ≤ w.heap.size) : Calls Try.prog 18 #[.agg #[.bool pc.many, .bool pc.neg, sv], .int .u8 n] w (HasEnd (hasP pc b) w) := by
  subst hn
  by_cases hb : b = 47
  · subst hb; exact has_slash pc sv lim w h hlim
  · exact has_other pc b sv lim w h hlim hb
/-- The ends in memory. -/
def EndsAt (w : World) (eb : Nat) (E : List Bool) : Prop := w.heap[eb]? = some (.cells (E.map Value.bool).toArray 4 (0, 0))
theorem EndsAt.cell {w : World} {eb : Nat} {E : List Bool} (h : EndsAt w eb E) (i : Nat) (hi : i < E.length) : w.cell? ⟨eb, i, none⟩ = some (.bool (E.getD i false)) := by
  rw [block_cell h]; simp [List.getD, hi]
theorem EndsAt.set {w : World} {eb : Nat} {E : List Bool} (h : EndsAt w eb E) (i : Nat) (x : Bool) : EndsAt (w.setCell ⟨eb, i, none⟩ (.bool x)) eb (E.set i x) := by
  unfold EndsAt at h ⊢
  rw [block_set h]
  simp
def MoveEnd (eb base : Nat) (E : List Bool) (w : World) (e : Ending) (w' : World) : Prop := e = .returned (.tuple #[]) ∧ EndsAt w' eb E ∧ Below base w w'

def mixE (p : Pc) (name : List UInt8) (E : List Bool) (k : Nat) : List Bool := (List.range (name.length + 1)).map fun j => if j ≤ k then spreadE p name E j else E.getD j false
set_option maxHeartbeats 1000000 in
theorem spread_any (pc : Pc) (sv : Value) (base eb cap : Nat) (name : List UInt8) (E : List Bool) (w : World) (hE : E.length = name.length + 1) (h : Spans base w sv pc.spans) (hbe : base ≤ eb) (hA : EndsAt w eb E) (hn : name.length ≤ 1048576) (hcap : name.length + 1 ≤ cap) (hcm : cap ≤ 9223372036854775807) :
    Calls Try.prog 13 #[.agg #[.bool pc.many, .bool pc.neg, sv], .slice (some ⟨eb, 0, none⟩) (name.length + 1) cap, .string (mkB name)] w (MoveEnd eb base (spreadL pc name E) w) := by
  have hebl := lt_of_block hA
  have hsz : (mkB name).size = name.length := mkB_size _
  have HS := Lib.hid h
  have HA0 := Lib.hid hA
  obtain ⟨p, c0, rfl, _, _, _⟩ := h
  have Hfin := Lib.hid (show spreadL pc name E = mixE pc name E name.length by
    unfold spreadL mixE; refine List.map_congr_left fun j hj => ?_; rw [if_pos (by have := List.mem_range.1 hj; omega)])
  have Hst := Lib.hid (show mixE pc name E 0 = E by
    unfold mixE
    apply List.ext_getElem
    · simp [hE]
    · intro i h1 h2
      simp only [List.getElem_map, List.getElem_range]
      split
      · rename_i h0; obtain rfl : i = 0 := by omega
        simp [spreadE, List.getD, h2]
      · simp [List.getD, h2])
  clear hA
  generalize hq : mkB name = q at *
  have Hq := Lib.hid hq
  clear hq
  obtain ⟨n, hnn⟩ : ∃ n, n = name.length := ⟨_, rfl⟩
  rw [← hnn] at hE hn hcap hsz ⊢
  have Hn := Lib.hid hnn
  clear hnn
  go_enter Try.func13, Try.ntmps13
  go_wp2_with fail
  go_loopw [9] (fun i wr => ∃ k : Nat, k ≤ n ∧ i = .int .i64 k ∧ EndsAt wr eb (mixE pc name E k) ∧ wr.heap[w.heap.size]? = some (.cells #[.bool pc.many, .bool pc.neg, .slice p pc.spans.length c0] 41 (0, 0)) ∧ Below base w wr) (fun i _ => n - (intOf i).toNat)
  case atStart =>
    refine ⟨0, Nat.zero_le _, rfl, ?_, heap_alloc_new _ _, (Below.refl _ _).alloc (by omega) _⟩
    rw [Hst.out]; unfold EndsAt; rw [Below.heap_alloc _ _ _ hebl]; exact HA0.out
  case round =>
    obtain ⟨k, hk, rfl, hEA, hbx, hB⟩ := hrel
    have hbl := lt_of_block hbx
    obtain ⟨⟨b0, b1, b2⟩, _⟩ := three_cells hbx
    by_cases hlt : k < n
    · have hkn : k < name.length := by have := Hn.out; omega
      have hml : (mixE pc name E k).length = n + 1 := by unfold mixE; simp [Hn.out]
      have c1 := hEA.cell (k + 1) (by omega)
      have c2 := hEA.cell k (by omega)
      have f1 := block_free hEA (k + 1)
      have hg : q[k]'(by omega) = name.getD k 0 := by
        have := getD_of q k (by omega)
        rw [← this, ← Hq.out, mkB_toList]
      have HH := Lib.hid (fun w1 (hB1 : Below wr.heap.size wr w1) => (has_any pc (name.getD k 0) _ rfl (.slice p pc.spans.length c0) base w1 ((HS.out.below hB).below (hB1.mono (by omega))) (by have := hB1.size; omega)).mono fun e w2 h2 => (show e = .returned (.bool (hasP pc (name.getD k 0))) ∧ Below wr.heap.size wr w2 from ⟨h2.1, hB1.trans (h2.2.mono hB1.size)⟩))
      have HE := Lib.hid hEA
      have Hbx := Lib.hid hbx
      have HB := Lib.hid hB
      have hp1 : (0 : Int) ≤ (k : Int) + 1 := by omega
      have hw1 : IntKind.i64.wrap ((k : Int) + 1) = (k : Int) + 1 := IntWalk.i64_in _ (by omega)
      have ht1 : ((k : Int) + 1).toNat = k + 1 := by omega
      have hewr := lt_of_block hEA
      have e1 : (mixE pc name E k).getD (k + 1) false = E.getD (k + 1) false := by
        unfold mixE; simp [List.getD, show k + 1 < name.length + 1 by omega]; intro h; omega
      have e2 : (mixE pc name E k).getD k false = spreadE pc name E k := by
        unfold mixE; simp [List.getD, show k < name.length + 1 by omega]
      have e3 : (mixE pc name E k).set (k + 1) (spreadE pc name E (k + 1)) = mixE pc name E (k + 1) := by
        apply List.ext_getElem
        · simp [mixE]
        · intro i h1 h2
          rw [List.getElem_set]
          simp only [mixE, List.getElem_map, List.getElem_range]
          split
          · rename_i h; subst h; simp
          · rename_i h
            by_cases hik : i ≤ k
            · rw [if_pos hik, if_pos (by omega)]
            · rw [if_neg hik, if_neg (by omega)]
      have e4 : spreadE pc name E (k + 1) = (E.getD (k + 1) false || (spreadE pc name E k && hasP pc (name.getD k 0))) := rfl
      rw [e1] at c1
      rw [e2] at c2
      have HC1 := Lib.hid (fun w1 (hB1 : Below wr.heap.size wr w1) => (hB1.cell (p := ⟨eb, k + 1, none⟩) hewr).trans c1)
      have HC2 := Lib.hid (fun w1 (hB1 : Below wr.heap.size wr w1) => (hB1.cell (p := ⟨eb, k, none⟩) hewr).trans c2)
      have HD0 := Lib.hid (fun w1 (hB1 : Below wr.heap.size wr w1) => (hB1.cell (p := ⟨w.heap.size, 0, none⟩) hbl).trans b0)
      have HD1 := Lib.hid (fun w1 (hB1 : Below wr.heap.size wr w1) => (hB1.cell (p := ⟨w.heap.size, 1, none⟩) hbl).trans b1)
      have HD2 := Lib.hid (fun w1 (hB1 : Below wr.heap.size wr w1) => (hB1.cell (p := ⟨w.heap.size, 2, none⟩) hbl).trans b2)
      have HF := Lib.hid (fun w1 (hB1 : Below wr.heap.size wr w1) => (hB1.frozen (p := ⟨eb, k + 1, none⟩) hewr).trans f1)
      have Hnext := Lib.hid (fun w1 (hB1 : Below wr.heap.size wr w1) => (show EndsAt (w1.setCell ⟨eb, k + 1, none⟩ (.bool (spreadE pc name E (k + 1)))) eb (mixE pc name E (k + 1)) from e3 ▸ EndsAt.set (show EndsAt w1 eb (mixE pc name E k) from (hB1.block eb hewr).trans hEA) (k + 1) _))
      rw [e4] at Hnext
      clear hEA hbx hB c1 c2 b0 b1 b2 e1 e2 e3 e4 f1 HE
      generalize E.getD (k + 1) false = x1 at *
      generalize spreadE pc name E k = x2 at *
      generalize name.getD k 0 = b at *
      generalize hasP pc b = x3 at *
      cases x1 <;> cases x2
      all_goals
        go_wp2_with fail
        refine wp_region_class_tail (Below wr.heap.size wr) 22 (by kernel_rfl) (by kernel_rfl) (Below.refl _ _).drew ?_
        simp only [List.take_succ_cons, List.take_zero, List.drop_succ_cons, List.drop_zero]
        repeat (go_big_quiet_step (first | (intro _; rfl) | (intro hq; rw [HC1.out _ hq]; exact ⟨rfl, rfl⟩) | (intro hq; rw [HC2.out _ hq]; exact ⟨rfl, rfl⟩) | (intro hq; have q0 := HD0.out _ hq; have q1 := HD1.out _ hq; have q2 := HD2.out _ hq; simp only [q0, q1, q2, Result.andThen_ok]; first | exact ⟨trivial, rfl⟩ | exact ⟨rfl, rfl⟩ | rfl) | (intro hq; exact HH.out _ hq)))
        refine wpQuiet_nil ?_
        intro wq hBq
        have k1 := HC1.out _ hBq
        have k2 := HF.out _ hBq
        have k3 := Hnext.out _ hBq
        have k4 := (hBq.block _ hbl).trans Hbx.out
        have k5 := HB.out.trans (hBq.mono (by have := HB.out.size; omega))
        have K3 := Lib.hid k3
        have K4 := Lib.hid k4
        have K5 := Lib.hid k5
        clear k3 k4 k5
        go_wp2_with fail
        exact ⟨⟨k + 1, by omega, by go_num, by simpa using K3.out, by rw [Below.heap_setCell _ _ _ _ (by simp only; omega)]; exact K4.out, K5.out.setCell hbe _⟩, by simp [intOf]; omega⟩
    · obtain rfl : k = n := by omega
      have hfin := Hfin.out
      rw [← Hn.out] at hfin
      rw [← hfin] at hEA
      go_wp2_with fail
      go_end0
      exact ⟨rfl, hEA, hB⟩

/-- Behind the rounds from the name's end down to place k. -/
def mixS (p : Pc) (name : List UInt8) (E : List Bool) (k : Nat) : List Bool := (List.range (name.length + 1)).map fun j => if k < j then (E.getD (j - 1) false && hasP p (name.getD (j - 1) 0)) else E.getD j false
set_option maxHeartbeats 1000000 in
theorem step_any (pc : Pc) (sv : Value) (base eb cap : Nat) (name : List UInt8) (E : List Bool) (w : World) (hE : E.length = name.length + 1) (h : Spans base w sv pc.spans) (hbe : base ≤ eb) (hA : EndsAt w eb E) (hn : name.length ≤ 1048576) (hcap : name.length + 1 ≤ cap) (hcm : cap ≤ 9223372036854775807) :
    Calls Try.prog 14 #[.agg #[.bool pc.many, .bool pc.neg, sv], .slice (some ⟨eb, 0, none⟩) (name.length + 1) cap, .string (mkB name)] w (MoveEnd eb base (stepE pc name E) w) := by
  have hebl := lt_of_block hA
  have hsz : (mkB name).size = name.length := mkB_size _
  have HS := Lib.hid h
  have HA0 := Lib.hid hA
  obtain ⟨p, c0, rfl, _, _, _⟩ := h
  have Hfin := Lib.hid (show (mixS pc name E 0).set 0 false = stepE pc name E by
    unfold mixS stepE
    apply List.ext_getElem
    · simp
    · intro i h1 h2
      rw [List.getElem_set]
      split
      · rename_i h0; subst h0; rfl
      · rename_i h0
        obtain ⟨j, rfl⟩ : ∃ j, i = j + 1 := ⟨i - 1, by omega⟩
        simp)
  have Hst := Lib.hid (show mixS pc name E name.length = E by
    unfold mixS
    apply List.ext_getElem
    · simp [hE]
    · intro i h1 h2
      simp only [List.getElem_map, List.getElem_range]
      rw [if_neg (by rw [hE] at h2; omega)]
      simp [List.getD, h2])
  clear hA
  generalize hq : mkB name = q at *
  have Hq := Lib.hid hq
  clear hq
  obtain ⟨n, hnn⟩ : ∃ n, n = name.length := ⟨_, rfl⟩
  rw [← hnn] at hE hn hcap hsz Hst ⊢
  have Hn := Lib.hid hnn
  clear hnn
  go_enter Try.func14, Try.ntmps14
  go_wp2_with fail
  go_loopw [6] (fun i wr => ∃ k : Nat, k ≤ n ∧ i = .int .i64 k ∧ EndsAt wr eb (mixS pc name E k) ∧ wr.heap[w.heap.size]? = some (.cells #[.bool pc.many, .bool pc.neg, .slice p pc.spans.length c0] 41 (0, 0)) ∧ Below base w wr) (fun i _ => (intOf i).toNat)
  case atStart =>
    refine ⟨n, Nat.le_refl _, rfl, ?_, heap_alloc_new _ _, (Below.refl _ _).alloc (by omega) _⟩
    rw [Hst.out]; unfold EndsAt; rw [Below.heap_alloc _ _ _ hebl]; exact HA0.out
  case round =>
    obtain ⟨k, hk, rfl, hEA, hbx, hB⟩ := hrel
    have hbl := lt_of_block hbx
    obtain ⟨⟨b0, b1, b2⟩, _⟩ := three_cells hbx
    have hml : (mixS pc name E k).length = n + 1 := by unfold mixS; simp [Hn.out]
    by_cases hlt : 0 < k
    · obtain ⟨m, rfl⟩ : ∃ m, k = m + 1 := ⟨k - 1, by omega⟩
      have hkn : m < name.length := by have := Hn.out; omega
      have c1 := hEA.cell (m + 1) (by omega)
      have c2 := hEA.cell m (by omega)
      have f1 := block_free hEA (m + 1)
      have hg : q[m]'(by omega) = name.getD m 0 := by
        have := getD_of q m (by omega)
        rw [← this, ← Hq.out, mkB_toList]
      have HH := Lib.hid (fun w1 (hB1 : Below wr.heap.size wr w1) => (has_any pc (name.getD m 0) _ rfl (.slice p pc.spans.length c0) base w1 ((HS.out.below hB).below (hB1.mono (by omega))) (by have := hB1.size; omega)).mono fun e w2 h2 => (show e = .returned (.bool (hasP pc (name.getD m 0))) ∧ Below wr.heap.size wr w2 from ⟨h2.1, hB1.trans (h2.2.mono hB1.size)⟩))
      have Hbx := Lib.hid hbx
      have HB := Lib.hid hB
      have hp1 : (0 : Int) ≤ (m : Int) := by omega
      have hw1 : IntKind.i64.wrap ((m : Int) + 1 - 1) = (m : Int) := by rw [show (m : Int) + 1 - 1 = m by omega]; exact IntWalk.i64_in _ (by omega)
      have ht1 : (((m + 1 : Nat) : Int)).toNat = m + 1 := by omega
      have hewr := lt_of_block hEA
      have e2 : (mixS pc name E (m + 1)).getD m false = E.getD m false := by
        unfold mixS; simp [List.getD, show m < name.length + 1 by omega]; intro h; omega
      have e3 : (mixS pc name E (m + 1)).set (m + 1) (E.getD m false && hasP pc (name.getD m 0)) = mixS pc name E m := by
        apply List.ext_getElem
        · simp [mixS]
        · intro i h1 h2
          rw [List.getElem_set]
          simp only [mixS, List.getElem_map, List.getElem_range]
          split
          · rename_i h; subst h; rw [if_pos (by omega)]; simp
          · rename_i h
            by_cases hik : m < i
            · rw [if_pos hik, if_pos (by omega)]
            · rw [if_neg hik, if_neg (by omega)]
      rw [e2] at c2
      have HC1 := Lib.hid (fun w1 (hB1 : Below wr.heap.size wr w1) => (hB1.cell (p := ⟨eb, m + 1, none⟩) hewr).trans c1)
      have HC2 := Lib.hid (fun w1 (hB1 : Below wr.heap.size wr w1) => (hB1.cell (p := ⟨eb, m, none⟩) hewr).trans c2)
      have HD0 := Lib.hid (fun w1 (hB1 : Below wr.heap.size wr w1) => (hB1.cell (p := ⟨w.heap.size, 0, none⟩) hbl).trans b0)
      have HD1 := Lib.hid (fun w1 (hB1 : Below wr.heap.size wr w1) => (hB1.cell (p := ⟨w.heap.size, 1, none⟩) hbl).trans b1)
      have HD2 := Lib.hid (fun w1 (hB1 : Below wr.heap.size wr w1) => (hB1.cell (p := ⟨w.heap.size, 2, none⟩) hbl).trans b2)
      have HF := Lib.hid (fun w1 (hB1 : Below wr.heap.size wr w1) => (hB1.frozen (p := ⟨eb, m + 1, none⟩) hewr).trans f1)
      have Hnext := Lib.hid (fun w1 (hB1 : Below wr.heap.size wr w1) => (show EndsAt (w1.setCell ⟨eb, m + 1, none⟩ (.bool (E.getD m false && hasP pc (name.getD m 0)))) eb (mixS pc name E m) from e3 ▸ EndsAt.set (show EndsAt w1 eb (mixS pc name E (m + 1)) from (hB1.block eb hewr).trans hEA) (m + 1) _))
      clear hEA hbx hB c1 c2 b0 b1 b2 e2 e3 f1
      generalize E.getD m false = x2 at *
      generalize name.getD m 0 = b at *
      generalize hasP pc b = x3 at *
      cases x2
      all_goals
        go_wp2_with fail
        refine wp_region_class_tail (Below wr.heap.size wr) 16 (by kernel_rfl) (by kernel_rfl) (Below.refl _ _).drew ?_
        simp only [List.take_succ_cons, List.take_zero, List.drop_succ_cons, List.drop_zero]
        repeat (go_big_quiet_step (first | (intro _; rfl) | (intro hq; rw [HC1.out _ hq]; exact ⟨rfl, rfl⟩) | (intro hq; rw [HC2.out _ hq]; exact ⟨rfl, rfl⟩) | (intro hq; have q0 := HD0.out _ hq; have q1 := HD1.out _ hq; have q2 := HD2.out _ hq; simp only [q0, q1, q2, Result.andThen_ok]; first | exact ⟨trivial, rfl⟩ | exact ⟨rfl, rfl⟩ | rfl) | (intro hq; exact HH.out _ hq)))
        refine wpQuiet_nil ?_
        intro wq hBq
        have k1 := HC1.out _ hBq
        have k2 := HF.out _ hBq
        have k3 := Hnext.out _ hBq
        have k4 := (hBq.block _ hbl).trans Hbx.out
        have k5 := HB.out.trans (hBq.mono (by have := HB.out.size; omega))
        have K3 := Lib.hid k3
        have K4 := Lib.hid k4
        have K5 := Lib.hid k5
        clear k3 k4 k5
        go_wp2_with fail
        exact ⟨⟨m, by omega, by go_num, by simpa using K3.out, by rw [Below.heap_setCell _ _ _ _ (by simp only; omega)]; exact K4.out, K5.out.setCell hbe _⟩, by simp [intOf]⟩
    · obtain rfl : k = 0 := by omega
      have hfin := Hfin.out
      have c0x := hEA.cell 0 (by omega)
      have f0x := block_free hEA 0
      have HE0 := Lib.hid (hEA.set 0 false)
      rw [hfin] at HE0
      have HB := Lib.hid hB
      clear hEA hB hfin
      go_wp2_with fail
      go_end0
      exact ⟨rfl, HE0.out, HB.out.setCell hbe _⟩
theorem next_any (pc : Pc) (sv : Value) (base eb cap : Nat) (name : List UInt8) (E : List Bool) (w : World) (hE : E.length = name.length + 1) (h : Spans base w sv pc.spans) (hbe : base ≤ eb) (hA : EndsAt w eb E) (hn : name.length ≤ 1048576) (hcap : name.length + 1 ≤ cap) (hcm : cap ≤ 9223372036854775807) :
    (pc.many = true → Calls Try.prog 13 #[.agg #[.bool pc.many, .bool pc.neg, sv], .slice (some ⟨eb, 0, none⟩) (name.length + 1) cap, .string (mkB name)] w (MoveEnd eb base (nextE pc name E) w)) ∧
    (pc.many = false → Calls Try.prog 14 #[.agg #[.bool pc.many, .bool pc.neg, sv], .slice (some ⟨eb, 0, none⟩) (name.length + 1) cap, .string (mkB name)] w (MoveEnd eb base (nextE pc name E) w)) := by
  constructor
  · intro hm
    have e : nextE pc name E = spreadL pc name E := by unfold nextE; rw [hm]; rfl
    rw [e]; exact spread_any pc sv base eb cap name E w hE h hbe hA hn hcap hcm
  · intro hm
    have e : nextE pc name E = stepE pc name E := by unfold nextE; rw [hm]; rfl
    rw [e]; exact step_any pc sv base eb cap name E w hE h hbe hA hn hcap hcm
end Go.Proofs.Ytaaggfccbbimbaa
