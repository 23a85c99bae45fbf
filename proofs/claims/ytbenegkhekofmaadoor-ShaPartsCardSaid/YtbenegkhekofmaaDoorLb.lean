/- Walks: the statement ShaEnds. -/
import Derived.Test.YtbenegkhekofmaaDoorLa
import Derived.Deep.OwnRows
namespace Go.Proofs.YtbenegkhekofmaaDoor
set_option linter.unusedVariables false
open Go.ChangeShapes Go.WideShapes Go.ChangeAt Go.RowKit

def strN (l : List Nat) : ByteArray := ⟨(l.map Nat.toUInt8).toArray⟩
theorem strN_size (l : List Nat) : (strN l).size = l.length := by
  show (l.map Nat.toUInt8).toArray.size = _
  simp
theorem bytesL_strN {l : List Nat} (h : Small 256 l) : bytesL (strN l) = l := by
  unfold bytesL strN
  apply List.ext_getElem (by simp)
  intro i h1 h2
  have := h i
  simp only [List.getD_eq_getElem?_getD, List.getElem?_eq_getElem h2, Option.getD_some] at this
  simp
  omega
theorem strN_get {l : List Nat} (h : Small 256 l) (i : Nat) (hi : i < (strN l).size) : (strN l)[i].toNat = l.getD i 0 := by
  have hl : i < l.length := by rw [strN_size] at hi; exact hi
  have h1 := h i
  have e : (strN l)[i] = (l.map Nat.toUInt8)[i]'(by simpa using hl) := rfl
  simp only [List.getD_eq_getElem?_getD, List.getElem?_eq_getElem hl, Option.getD_some] at h1 ⊢
  rw [e, List.getElem_map]
  simp
  omega
theorem arr_text {w : World} {b t n cap : Nat} {l : List Nat} (hs : Small 256 l) (hl : l.length = n) (h : Arr w b t n .u8 l) : (convert 27 9 (.slice (some ⟨b, 0, none⟩) n cap)).run Tryd.prog w = .ok (.string (strN l)) w := by
  have := Lib.run_convert_whole (P := Tryd.prog) w 27 5 9 Tryd.underlying27 Tryd.underlying5 Tryd.underlying9 b 0 (strN l) (fun i hi => by
    have hn : i < n := by rw [strN_size] at hi; omega
    rw [Nat.zero_add, h.cell i hn, ← strN_get hs i hi]) cap
  rwa [strN_size, hl] at this
theorem arr_byts {w : World} {b t n : Nat} {l : List Nat} (hl : l.length = n) (h : Arr w b t n .u8 l) (hm : n ≤ maxLen) : BytsN w (.slice (some ⟨b, 0, none⟩) n n) l :=
  .inr (.inr ⟨b, 0, n, by rw [hl], by omega, hm, h.lt, fun i hi => by rw [Nat.zero_add]; exact h.cell i (by omega)⟩)
def endL (c : Nat) (i : Nat) : List Nat := (List.range i).map fun j => (c + j) % 256
theorem endL_len (c i : Nat) : (endL c i).length = i := by simp [endL]
theorem endL_succ (c i : Nat) : endL c (i + 1) = endL c i ++ [(c + i) % 256] := by simp [endL, List.range_succ]
theorem endL_small (c i : Nat) : Small 256 (endL c i) := range_small (by decide) fun _ _ => Nat.mod_lt _ (by decide)
theorem made_arr (w : World) (n : Nat) : Arr (w.alloc (.cells (madeCells #[.int .u8 0] n) 5)) w.heap.size 5 n .u8 [] := by
  have h := toList_madeCells_one (.int .u8 0) n
  refine arr_zero (heap_alloc_new w _) ?_
  apply Array.toList_inj.1
  rw [h]; simp

set_option maxHeartbeats 1000000 in
theorem ends_out (n c : Int) (w : World) (hK : KeysAt w) (h : n < 0 ∨ 300 < n) : Calls Tryd.prog 4 #[.int .i64 n, .int .u8 c] w (LawEnd w) := by
  have HA := Lib.hid (alive_any w hK)
  clear hK
  rcases h with h | h
  · have d1 : decide (n < 0) = true := by simpa using h
    go_enter Tryd.func4, Tryd.ntmps4
    go_wp2_with fail
    refine HA.out.mono ?_
    rintro e w1 ⟨rfl, hB1⟩
    go_wp2_with fail
    go_ret
    exact ⟨rfl, hB1⟩
  · have d1 : decide (n < 0) = false := by simp; omega
    have d2 : decide (300 < n) = true := by simpa using h
    have h0 : ¬ n < 0 := by omega
    go_enter Tryd.func4, Tryd.ntmps4
    go_wp2_with fail
    refine HA.out.mono ?_
    rintro e w1 ⟨rfl, hB1⟩
    go_wp2_with fail
    go_ret
    exact ⟨rfl, hB1⟩

set_option maxHeartbeats 1000000 in
theorem ends_in (n c : Nat) (w : World) (hK : KeysAt w) (hn : n ≤ 300) (hc : c < 256) : Calls Tryd.prog 4 #[.int .i64 (n : Int), .int .u8 (c : Int)] w (LawEnd w) := by
  have HA := Lib.hid (alive_any w hK)
  have HK := Lib.hid hK
  clear hK
  have d1 : decide ((n : Int) < 0) = false := by simp
  have d2 : decide (300 < (n : Int)) = false := by simp; omega
  have h0 : ¬ (n : Int) < 0 := by omega
  have h1 : ¬ 300 < (n : Int) := by omega
  have hmk := fun w1 => run_make_row' (P := Tryd.prog) 27 5 (.int .u8 0) 1 Tryd.underlying27 Tryd.info5 rfl .i64 .i64 n (by omega) (by omega) w1
  go_enter Tryd.func4, Tryd.ntmps4
  go_wp2_with fail
  refine HA.out.mono ?_
  rintro e w1 ⟨rfl, hB1⟩
  have hBs := hB1.size
  go_wp2_with fail
  have HM := Lib.hid (made_arr w1 n)
  clear hmk
  go_loopg [6, 19] n (fun g _ iv wr => ∃ i : Nat, i + g = n ∧ iv = .int .i64 i ∧ Arr wr w1.heap.size 5 n .u8 (endL c i) ∧ Below w.heap.size w wr)
  case atStart => exact ⟨0, by omega, rfl, HM.out, hB1.alloc hBs _⟩
  case round =>
    obtain ⟨i, hig, rfl, hA, hB⟩ := hrel
    by_cases hlt : i < n
    · have hltI : (i : Int) < (n : Int) := by omega
      have c1 := hA.cell i hlt
      have f1 := hA.free i
      have Hn := Lib.hid (fun v => (by have h := hA.snoc (by rw [endL_len]; exact hlt) v; rw [endL_len] at h; exact h : Arr (wr.setCell ⟨w1.heap.size, i, none⟩ (.int .u8 ((v : Nat) : Int))) w1.heap.size 5 n .u8 (endL c i ++ [v])))
      have hw := hA.lt
      clear hA
      go_wp2_with fail
      go_roundg (gk - 1)
      case measure => omega
      case rel => exact ⟨i + 1, by omega, by go_num, by rw [endL_succ, show ((c : Int) + (i : Int)) % 256 = (((c + i) % 256 : Nat) : Int) by omega]; exact Hn.out _, hB.setCell (by show w.heap.size ≤ w1.heap.size; exact hBs) _⟩
    · obtain rfl : i = n := by omega
      have hnl : ¬ (i : Int) < (i : Int) := by omega
      have hcv := arr_text (cap := i) (endL_small c i) (endL_len c i) hA
      have hby := arr_byts (endL_len c i) hA (by unfold maxLen; omega)
      have ho := of_any (strN (endL c i)) wr (HK.out.below HK.out.1 hB) (by rw [strN_size, endL_len]; omega)
      rw [bytesL_strN (endL_small c i)] at ho
      have hd := fun w2 (h2 : Below wr.heap.size wr w2) => dof_any _ (endL c i) w2 (hby.below h2) (endL_small c i) (by rw [endL_len]; omega)
      have hq := fun w => same24 (endL c i) w
      have HO := Lib.hid ho
      have HD := Lib.hid hd
      clear hby ho hd HM hA
      generalize strN (endL c i) = s at *
      generalize shaL (endL c i) = D at *
      go_wp2_with fail
      refine HO.out.mono ?_
      rintro e w2 ⟨rfl, hB2⟩
      have hb2 := hB.trans (hB2.mono hB.size)
      go_wp2_with fail
      refine (HD.out _ hB2).mono ?_
      rintro e w3 ⟨rfl, hB3⟩
      have hb3 := hb2.trans (hB3.mono hb2.size)
      clear hB hB2 hb2 hB3
      go_wp2_with fail
      go_ret
      exact ⟨rfl, hb3⟩

theorem ends_walk (n c : Int) (w : World) (h0 : (Lit.int .u8 c).wf = true) (hK : KeysAt w) : Calls Tryd.prog 4 #[.int .i64 n, .int .u8 c] w (LawEnd w) := by
  have hc : 0 ≤ c ∧ c < 256 := by
    have h1 : (decide (IntKind.u8.min ≤ c) && decide (c ≤ IntKind.u8.max)) = true := h0
    rw [show IntKind.u8.min = 0 from rfl, show IntKind.u8.max = 255 from rfl, Bool.and_eq_true, decide_eq_true_iff, decide_eq_true_iff] at h1
    omega
  by_cases h : n < 0 ∨ 300 < n
  · exact ends_out n c w hK h
  · obtain ⟨m, rfl⟩ := Int.eq_ofNat_of_zero_le (show 0 ≤ n by omega)
    obtain ⟨k, rfl⟩ := Int.eq_ofNat_of_zero_le hc.1
    exact ends_in m k w hK (by omega) (by omega)
end Go.Proofs.YtbenegkhekofmaaDoor
