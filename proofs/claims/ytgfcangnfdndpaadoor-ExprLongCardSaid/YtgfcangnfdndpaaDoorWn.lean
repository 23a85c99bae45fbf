/- Walks: the law ExprLong. -/
import Derived.Test.YtgfcangnfdndpaaDoorWj
import Derived.Test.YtgfcangnfdndpaaDoorPe
import Derived.Lib.SlBytesRow
import Derived.Deep.OwnRows
namespace Go.Proofs.YtgfcangnfdndpaaDoor
set_option linter.unusedVariables false
open Go.ChangeShapes Go.WideShapes Go.ChangeAt Go.RowKit

def xsB (n : Nat) : ByteArray := mkB (List.replicate n 120)
theorem xsB_size (n : Nat) : (xsB n).size = n := by rw [xsB, mkB_size, List.length_replicate]
theorem xsB_get (n i : Nat) (h : i < (xsB n).size) : (xsB n)[i] = 120 := by
  have h' : i < (xsB n).data.toList.length := by rw [ba_len]; exact h
  have e : (xsB n)[i] = (xsB n).data.toList[i] := by rw [Array.getElem_toList]; rfl
  rw [e]
  have : ∀ x ∈ (xsB n).data.toList, x = 120 := by
    rw [xsB, mkB_toList]; intro x hx; exact List.eq_of_mem_replicate hx
  exact this _ (List.getElem_mem h')
theorem tw_rep (n : Nat) (c : UInt8) (hc : tagC c = true) : (List.replicate n c).takeWhile tagC = List.replicate n c := by
  induction n with
  | zero => rfl
  | succ n ih => rw [List.replicate_succ, List.takeWhile_cons, if_pos hc, ih]
theorem pieces_xs (n : Nat) : pieces (List.replicate (n + 1) 120) = [xsB (n + 1)] := by
  rw [List.replicate_succ, pieces_cons, if_neg (by decide), if_pos (by decide), ← List.replicate_succ, tw_rep _ _ (by decide), tw_rep _ _ (by decide)]
  simp only [List.length_replicate, List.drop_replicate, Nat.sub_self]
  rfl
theorem parse_xs (n : Nat) (h : n + 1 ≤ 1024) : parseR (xsB (n + 1)) = ([xsB (n + 1)], 0) := by
  refine of_pieces (n := 6) (by rw [xsB_size]; exact h) ?_
  rw [show (xsB (n + 1)).data.toList = List.replicate (n + 1) 120 from rfl, pieces_xs]
  have ht : tagB (xsB (n + 1)) = true := by
    unfold tagB
    rw [xsB, mkB_toList]
    rw [Bool.and_eq_true]
    refine ⟨rfl, List.all_eq_true.2 fun x hx => ?_⟩
    rw [List.eq_of_mem_replicate hx]; decide
  obtain ⟨n1, n2, n3⟩ := tag_ne ht
  have n4 : xsB (n + 1) ≠ openB := by intro e; rw [e] at ht; exact absurd ht (by decide)
  generalize xsB (n + 1) = x at *
  have hp : lvlP 3 .part ⟨[x], [], 0⟩ = .ok ⟨[], [x], 0⟩ := by
    rw [lvlP]
    simp only
    rw [takeP_ne n4]
    simp only
    rw [if_pos ht]
    rfl
  rw [lvlP, lvlP, lvlP]
  simp only
  rw [takeP_ne n1]
  simp only
  rw [hp]
  simp only
  rw [tail_and (k := 4) (by decide) rfl]
  exact tail_or (k := 5) (Z := []) (by decide) rfl
theorem made_get (z : Value) (n j : Nat) (h : j < n) : (madeCells #[z] n)[j]? = some z := by
  simp [madeCells, h, Nat.mod_one]
/-- A row that is filled up to i. -/
def Filled (w : World) (b n i : Nat) : Prop := ∃ cur, w.heap[b]? = some (.cells cur 5 (0, 0)) ∧ ∀ j, j < n → cur[j]? = some (.int .u8 (if j < i then 120 else 0))
theorem Filled.cell {w : World} {b n i : Nat} (h : Filled w b n i) (j : Nat) (hj : j < n) : w.cell? ⟨b, j, none⟩ = some (.int .u8 (if j < i then 120 else 0)) ∧ w.frozen? ⟨b, j, none⟩ = false := by
  obtain ⟨cur, h1, h2⟩ := h
  exact ⟨(block_cell h1 j).trans (h2 j hj), block_free h1 j⟩
theorem Filled.next {w : World} {b n i : Nat} (h : Filled w b n i) (hi : i < n) : Filled (w.setCell ⟨b, i, none⟩ (.int .u8 120)) b n (i + 1) := by
  obtain ⟨cur, h1, h2⟩ := h
  refine ⟨_, block_set h1, fun j hj => ?_⟩
  have hs := (Array.getElem?_eq_some_iff.1 (h2 i hi)).1
  rw [Array.getElem?_setIfInBounds]
  by_cases e : i = j
  · subst e; rw [if_pos rfl, if_pos hs, if_pos (by omega)]
  · rw [if_neg e, h2 j hj]
    by_cases l : j < i
    · rw [if_pos l, if_pos (by omega)]
    · rw [if_neg l, if_neg (by omega)]
theorem Filled.text {w : World} {b n : Nat} (h : Filled w b n n) : (convert 38 9 (.slice (some ⟨b, 0, none⟩) n n)).run Tryd.prog w = .ok (.string (xsB n)) w := by
  have := Lib.run_convert_whole (P := Tryd.prog) w 38 5 9 Tryd.underlying38 Tryd.underlying5 Tryd.underlying9 b 0 (xsB n) (fun i hi => by
    rw [xsB_get n i hi, Nat.zero_add]
    rw [xsB_size] at hi
    rw [(h.cell i hi).1, if_pos hi]
    rfl) n
  rwa [xsB_size] at this
theorem Filled.below {w w' : World} {b n i : Nat} (h : Filled w b n i) (hB : Below w.heap.size w w') : Filled w' b n i := by
  obtain ⟨cur, h1, h2⟩ := h
  exact ⟨cur, by rw [hB.block b (lt_of_block h1)]; exact h1, h2⟩

set_option maxHeartbeats 1000000 in
theorem long_walk (m : Int) (w : World) : Calls Tryd.prog 9 #[.int .i64 m] w (LawEnd w) := by
  have H10 := Lib.hid (alive_any w)
  by_cases h1 : m < -3
  · go_enter Tryd.func9, Tryd.ntmps9
    go_wp2_with fail
    refine H10.out.mono ?_
    rintro e' w1 ⟨rfl, hB⟩
    go_wp2_with fail
    go_ret
    exact ⟨rfl, hB⟩
  · by_cases h2 : 3 < m
    · go_enter Tryd.func9, Tryd.ntmps9
      go_wp2_with fail
      refine H10.out.mono ?_
      rintro e' w1 ⟨rfl, hB⟩
      go_wp2_with fail
      go_ret
      exact ⟨rfl, hB⟩
    · obtain ⟨N, hN⟩ : ∃ N : Nat, (N : Int) = 1024 + m := ⟨(1024 + m).toNat, by omega⟩
      have hmk := fun w1 => run_make_row' (P := Tryd.prog) 38 5 (.int .u8 0) 1 Tryd.underlying38 (by kernel_rfl) rfl .i64 .i64 N (by omega) (by omega) w1
      rw [hN] at hmk
      have hwr : IntKind.i64.wrap (1024 + m) = 1024 + m := wrap_mid _ (by omega) (by omega)
      have HP := Lib.hid (fun w1 => parse_any (xsB N) w1 (by rw [xsB_size]; omega))
      unfold Parsed at HP
      have hR : (0 < m ∧ parseR (xsB N) = ([], 3)) ∨ (m ≤ 0 ∧ parseR (xsB N) = ([xsB N], 0)) := by
        by_cases h0 : 0 < m
        · left; refine ⟨h0, ?_⟩
          unfold parseR
          rw [if_pos (by rw [xsB_size]; omega)]
        · right; refine ⟨by omega, ?_⟩
          obtain ⟨i, rfl⟩ : ∃ i : Nat, N = i + 1 := ⟨N - 1, by omega⟩
          exact parse_xs i (by omega)
      have hcv := fun (w1 : World) (b : Nat) (h : Filled w1 b N N) => h.text
      have Hcv := Lib.hid hcv
      clear hcv
      go_enter Tryd.func9, Tryd.ntmps9
      go_wp2_with fail
      refine H10.out.mono ?_
      rintro e' w1 ⟨rfl, hB⟩
      have hBs := hB.size
      go_wp2_with fail
      go_loopg [4, 20] N (fun g _ iv wr => ∃ i : Nat, i + g = N ∧ iv = .int .i64 i ∧ Filled wr w1.heap.size N i ∧ Below w.heap.size w wr)
      case atStart =>
        exact ⟨0, by omega, rfl, ⟨_, heap_alloc_new w1 _, fun j hj => made_get _ _ _ hj⟩, hB.alloc hBs _⟩
      case round =>
        obtain ⟨i, hig, rfl, hf, hB2⟩ := hrel
        by_cases hlt : i < N
        · have hltI : (i : Int) < (N : Int) := by omega
          obtain ⟨hcell, hfz⟩ := hf.cell i hlt
          have Hn := Lib.hid (hf.next hlt)
          clear hf
          go_wp2_with fail
          go_roundg (gk - 1)
          case measure => omega
          case rel => exact ⟨i + 1, by omega, by go_num, Hn.out, hB2.setCell hBs _⟩
        · have hi : i = N := by omega
          subst hi
          have hnl : ¬ (i : Int) < (i : Int) := by omega
          have hcv := Hcv.out wr _ hf
          have Hf := Lib.hid hf
          clear hf
          rcases hR with ⟨h0, hp⟩ | ⟨h0, hp⟩
          · rw [hp] at HP
            simp only at HP
            clear hp
            go_wp2_with fail
            refine (HP.out _).mono ?_
            rintro e' w3 ⟨v, rfl, hv, hB3⟩
            replace hB := hB2.trans (hB3.mono hB2.size)
            obtain ⟨pv, capv, rfl, _⟩ := strs_shape hv
            clear hv hB3
            go_wp2_with fail
            go_ret
            exact ⟨rfl, hB⟩
          · have h0' : ¬ 0 < m := by omega
            rw [hp] at HP
            simp only at HP
            clear hp
            go_wp2_with fail
            refine (HP.out _).mono ?_
            rintro e' w3 ⟨v, rfl, hv, hB3⟩
            replace hB := hB2.trans (hB3.mono hB2.size)
            have hcv3 := fun k => Hcv.out _ _ ((Hf.out.below hB3).below (below_drewN (Below.refl _ _) k))
            obtain ⟨pv, capv, rfl, hv2⟩ := strs_shape hv
            obtain ⟨b, off, rfl, hb, hlc, hcm, hcell⟩ := hv2 (by simp)
            have hc0 := hcell 0 (by simp)
            simp only [Nat.add_zero] at hc0
            change w3.cell? ⟨b, off, none⟩ = some (.string (xsB i)) at hc0
            clear hv hB3 hv2 hcell hcv Hcv
            generalize xsB i = x at *
            go_wp2_with fail
            go_quiet (fail)
            go_wp2_with fail
            go_ret
            refine ⟨?_, below_drewN hB _⟩
            simp
end Go.Proofs.YtgfcangnfdndpaaDoor
