/- Walks: whether two go.mods say the same. -/
import Derived.Test.YtkmachhfibcdlaaDoorCg
import Derived.Laws.Runes
import Derived.Laws.RangeAny
import Derived.Lib.OthersKept
import Derived.WalkMore
import Derived.Shelf.Small.Utf8
namespace Go.Proofs.YtkmachhfibcdlaaDoor
set_option linter.unusedVariables false
set_option linter.unusedSimpArgs false
open Go.ChangeShapes Go.WideShapes Go.ChangeAt Go.RowKit

def RpB (t : Rp) : Prop := t.1.size ≤ 4194304 ∧ t.2.size ≤ 4194304
theorem lits_rp {t : Rp} (h : RpB t) : Tryd.prog.keyLits 2 34 (rpV t) = some [.string t.1.data.toList, .string t.2.data.toList] := by
  obtain ⟨h1, h2⟩ := h
  have hs : ∀ z : ByteArray, z.size ≤ 4194304 → Tryd.prog.keyLits 1 9 [.string z] = some [.string z.data.toList] := fun z hz => by
    simp only [Program.keyLits, Tryd.underlying9]
    rw [if_pos (by unfold maxLen; omega)]
  have hc : Tryd.prog.cellsOf 34 = 2 := by kernel_rfl
  have hc9 : Tryd.prog.cellsOf 9 = 1 := by kernel_rfl
  unfold Program.keyLits rpV
  rw [Tryd.underlying34]
  simp only [List.length_cons, List.length_nil, hc]
  rw [if_pos ⟨trivial, by kernel_rfl⟩]
  simp only [List.mapM_cons, List.mapM_nil, hc9, List.drop_zero, List.take_succ_cons, List.take_zero, hs t.1 h1, List.drop_succ_cons, hs t.2 h2]
  rfl
theorem eq_rp {a : Rp} (ha : RpB a) (w : World) : (Op.equalIn 10000 34 (.agg (rpV a).toArray) (.agg (rpV a).toArray)).run Tryd.prog w = .ok true w := by
  have hc : Tryd.prog.cellsOf 34 = 2 := by kernel_rfl
  have hf : (Value.agg (rpV a).toArray).formed Tryd.prog 34 = true := by simp [Value.formed, Tryd.underlying34, hc, rpV]
  obtain ⟨r, hr, hiff⟩ := run_equalIn_deep (P := Tryd.prog) 9998 2 34 (by kernel_rfl) w 2 2 _ _ _ _ hf hf (lits_rp ha) (lits_rp ha)
  have : r = true := hiff.2 rfl
  rw [← this]
  exact hr
theorem rp_load {w : World} {b off cap n_ : Nat} {l : List Rp} (h : LAt 2 rpV w (.slice (some ⟨b, off, none⟩) n_ cap) l) {i : Nat} {x : Rp} (hx : l[i]? = some x) :
    b < w.heap.size ∧ ∀ w1, Below w.heap.size w w1 → (loadVar 34 ⟨b, off + i * 2, none⟩).run Tryd.prog w1 = .ok (.agg (rpV x).toArray) w1 := by
  obtain ⟨hl, h⟩ := h
  rcases h with ⟨p, cap, hv, rfl⟩ | ⟨b', off', cap', hv, hb, hcap, hmax, hcell⟩
  · simp at hx
  · injection hv with hv1 hv2 hv3
    injection hv1 with hv1
    injection hv1 with hv4 hv5
    subst hv4; subst hv5
    refine ⟨hb, fun w1 hB => run_loadVar_mid (P := Tryd.prog) w1 b (off + i * 2) 34 (rpV x) _ (fun j z hz => ?_) Tryd.underlying34 rfl (by kernel_rfl)⟩
    have hj : j < 2 := (List.getElem?_eq_some_iff.1 hz).1
    have := hcell (i * 2 + j) z (by rw [LF_at l (fun y _ => rpV_len y) i x hx j hj]; exact hz)
    rw [Nat.add_assoc]
    exact (hB.cell (p := ⟨b, off + (i * 2 + j), none⟩) hb).trans this
theorem new2 (w : World) (A B : Obj) : ((w.alloc A).alloc B).heap[w.heap.size + 1]? = some B := by
  have h := heap_alloc_new (w.alloc A) B
  have e : (w.alloc A).heap.size = w.heap.size + 1 := by simp
  rw [e] at h
  exact h
set_option maxRecDepth 100000 in
set_option maxHeartbeats 4000000 in
/-- Two that say the same are found the same. -/
theorem same_true (M : MD) (v1 v2 : Value) (w : World) (hv1 : MAt M v1 w) (hv2 : MAt M v2 w) (hM : ∀ t ∈ M.reps, RpB t) (hl : M.reps.length ≤ 16777216) :
    Calls Tryd.prog 9 #[v1, v2] w fun e w' => e = .returned (.bool true) ∧ Below w.heap.size w w' := by
  obtain ⟨r1, rfl, hr1⟩ := hv1
  obtain ⟨r2, rfl, hr2⟩ := hv2
  obtain ⟨p1, c1, rfl, hp1⟩ := lat_shape hr1
  obtain ⟨p2, c2, rfl, hp2⟩ := lat_shape hr2
  obtain ⟨pa, lv, I, fl⟩ := M
  dsimp only at *
  have Hr1 := Lib.hid hr1
  have Hr2 := Lib.hid hr2
  have Hp1 := Lib.hid hp1
  have Hp2 := Lib.hid hp2
  have HM := Lib.hid hM
  have kn : (pa.toList == pa.toList) = true := by simp
  have knn := ne_of_eqb kn
  have kl : (lv == lv) = true := by simp
  have kln := ne_of_eqb kl
  have kf : ((fl : Int) == (fl : Int)) = true := by simp
  have kfn := ne_of_eqb kf
  have ki : ((I.length : Int) == (I.length : Int)) = true := by simp
  have kin := ne_of_eqb ki
  clear hr1 hr2 hp1 hp2 hM
  obtain ⟨len, hln⟩ : ∃ len, I.length = len := ⟨_, rfl⟩
  have Hln := Lib.hid hln
  rw [hln] at Hr1 Hr2 Hp1 Hp2 ki kin hl
  rw [hln]
  clear hln
  have hn1 := heap_alloc_new w (.cells #[.string pa, .int .i64 lv, .slice p1 len c1, .int .i64 (fl : Nat)] 27)
  have hsz1 : (w.alloc (.cells #[.string pa, .int .i64 lv, .slice p1 len c1, .int .i64 (fl : Nat)] 27)).heap.size = w.heap.size + 1 := by simp
  have hn1' := (heap_alloc_old (w.alloc (.cells #[.string pa, .int .i64 lv, .slice p1 len c1, .int .i64 (fl : Nat)] 27)) (.cells #[.string pa, .int .i64 lv, .slice p2 len c2, .int .i64 (fl : Nat)] 27) (show w.heap.size < _ from by rw [hsz1]; omega)).trans hn1
  have hn2 := new2 w (.cells #[.string pa, .int .i64 lv, .slice p1 len c1, .int .i64 (fl : Nat)] 27) (.cells #[.string pa, .int .i64 lv, .slice p2 len c2, .int .i64 (fl : Nat)] 27)
  have Hn1 := Lib.hid hn1'
  have Hn2 := Lib.hid hn2
  have HBa : Hid (Below w.heap.size w ((w.alloc (.cells #[.string pa, .int .i64 lv, .slice p1 len c1, .int .i64 (fl : Nat)] 27)).alloc (.cells #[.string pa, .int .i64 lv, .slice p2 len c2, .int .i64 (fl : Nat)] 27))) := Lib.hid (((Below.refl _ _).alloc (Nat.le_refl _) _).alloc (by simp) _)
  clear hn1 hsz1 hn1' hn2
  go_enter Tryd.func9, Tryd.ntmps9
  go_wp2_with fail
  generalize (w.alloc (.cells #[.string pa, .int .i64 lv, .slice p1 len c1, .int .i64 (fl : Nat)] 27)).alloc (.cells #[.string pa, .int .i64 lv, .slice p2 len c2, .int .i64 (fl : Nat)] 27) = w1 at *
  go_loopg [5, 37] len (fun g _ iv wr => ∃ k : Nat, k + g = len ∧ iv = .int .i64 k ∧ Hid (Below w1.heap.size w1 wr))
  case atStart => exact ⟨0, by omega, rfl, Lib.hid (Below.refl _ _)⟩
  case round =>
    obtain ⟨k, hkg, rfl, HB1⟩ := hrel
    have hsz := HB1.out.size
    have hx1 := (HB1.out.block _ (lt_of_block Hn1.out)).trans Hn1.out
    have hx2 := (HB1.out.block _ (lt_of_block Hn2.out)).trans Hn2.out
    have HBw := Lib.hid (HBa.out.trans (HB1.out.mono HBa.out.size))
    by_cases hlt : k < len
    · have hltI : (k : Int) < (len : Int) := by omega
      have hka : k < I.length := by have := Hln.out; omega
      obtain ⟨g1, o1, rfl⟩ := Hp1.out (by omega)
      obtain ⟨g2, o2, rfl⟩ := Hp2.out (by omega)
      have H1 := Lib.hid (fun w2 (h1 : Below wr.heap.size wr w2) => (rp_load Hr1.out (i := k) (List.getElem?_eq_getElem hka)).2 w2 (HBw.out.trans (h1.mono HBw.out.size)))
      have H2 := Lib.hid (fun w2 (h1 : Below wr.heap.size wr w2) => (rp_load Hr2.out (i := k) (List.getElem?_eq_getElem hka)).2 w2 (HBw.out.trans (h1.mono HBw.out.size)))
      have L1 := Lib.hid (fun w2 (h1 : Below wr.heap.size wr w2) => show (loadVar 25 ⟨w.heap.size, 2, none⟩).run Tryd.prog w2 = .ok (.slice (some ⟨g1, o1, none⟩) len c1) w2 from by
        have hbx := (h1.block _ (lt_of_block hx1)).trans hx1
        simp [go_sem, block_cell hbx])
      have L2 := Lib.hid (fun w2 (h1 : Below wr.heap.size wr w2) => show (loadVar 25 ⟨w.heap.size + 1, 2, none⟩).run Tryd.prog w2 = .ok (.slice (some ⟨g2, o2, none⟩) len c2) w2 from by
        have hbx := (h1.block _ (lt_of_block hx2)).trans hx2
        simp [go_sem, block_cell hbx])
      have heq := fun w1 => eq_rp (HM.out _ (List.getElem_mem hka)) w1
      generalize (rpV I[k]).toArray = x at *
      clear hx1 hx2
      go_wp2_with fail
      refine wp_region_class (Below wr.heap.size wr) (by kernel_rfl) (by kernel_rfl) (Below.refl _ _).drew ?_
      repeat (go_big_quiet_step (first | (intro _; rfl)))
      refine wpQuiet_load_at rfl 25 (.tmp 40) rfl ⟨w.heap.size, 2, none⟩ rfl (.slice (some ⟨g1, o1, none⟩) len c1) L1.out ?_
      simp only [Act.put, List.setIfInBounds_toArray, List.set_cons_succ, List.set_cons_zero]
      repeat (go_big_quiet_step (first | (intro _; rfl)))
      refine wpQuiet_load_at rfl 34 (.tmp 43) rfl ⟨g1, o1 + k * 2, none⟩ rfl (.agg x) H1.out ?_
      simp only [Act.put, List.setIfInBounds_toArray, List.set_cons_succ, List.set_cons_zero]
      repeat (go_big_quiet_step (first | (intro _; rfl)))
      refine wpQuiet_load_at rfl 25 (.tmp 45) rfl ⟨w.heap.size + 1, 2, none⟩ rfl (.slice (some ⟨g2, o2, none⟩) len c2) L2.out ?_
      simp only [Act.put, List.setIfInBounds_toArray, List.set_cons_succ, List.set_cons_zero]
      repeat (go_big_quiet_step (first | (intro _; rfl)))
      refine wpQuiet_load_at rfl 34 (.tmp 48) rfl ⟨g2, o2 + k * 2, none⟩ rfl (.agg x) H2.out ?_
      simp only [Act.put, List.setIfInBounds_toArray, List.set_cons_succ, List.set_cons_zero]
      repeat (go_big_quiet_step (first | (intro _; rfl)))
      refine wpQuiet_nil ?_
      intro wq hBq
      have hB2 := Lib.hid (HB1.out.trans (hBq.mono HB1.out.size))
      clear hBq heq
      go_wp2_with fail
      go_roundg (gk - 1)
      case measure => omega
      case rel => exact ⟨k + 1, by omega, by go_num, hB2⟩
    have hnI : ¬ (k : Int) < (len : Int) := by omega
    go_wp2_with fail
    go_ret
    exact ⟨rfl, HBw.out⟩
end Go.Proofs.YtkmachhfibcdlaaDoor
