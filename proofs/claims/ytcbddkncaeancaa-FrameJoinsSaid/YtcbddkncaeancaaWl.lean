/- Walks: the statement FrameOne. -/
import Derived.Test.YtcbddkncaeancaaWk
namespace Go.Proofs.Ytcbddkncaeancaa
set_option linter.unusedVariables false
open Go.ChangeShapes Go.WideShapes Go.ChangeAt Go.RowKit

theorem wf_u8 {n : Int} (h : (Lit.int .u8 n).wf = true) : 0 ≤ n ∧ n ≤ 255 := by
  simpa [Lit.wf, IntKind.min, IntKind.max, IntKind.bits, IntKind.signed] using h

set_option maxHeartbeats 400000 in
theorem one_none (s : ByteArray) (at_ c : Int) (w : World) (hs : s.size ≤ 140737488351232) (hg : 4096 < s.size ∨ at_ < 0 ∨ (s.size : Int) ≤ at_ ∨ c = 0) :
    Calls Try.prog 7 #[.string s, .int .i64 at_, .int .u8 c] w (LawEnd w) := by
  cases h1 : decide ((4096 : Int) < (s.size : Int)) with
  | true =>
    clear hg
    go_enter Try.func7, Try.ntmps7
    go_wp2_with fail
    refine (alive_any _).mono ?_
    rintro e w1 ⟨rfl, hB1⟩
    go_wp2_with fail
    go_ret
    exact ⟨rfl, hB1⟩
  | false =>
    cases h2 : decide (at_ < 0) with
    | true =>
      clear hg
      go_enter Try.func7, Try.ntmps7
      go_wp2_with fail
      refine (alive_any _).mono ?_
      rintro e w1 ⟨rfl, hB1⟩
      go_wp2_with fail
      go_ret
      exact ⟨rfl, hB1⟩
    | false =>
      cases h3 : decide ((s.size : Int) ≤ at_) with
      | true =>
        clear hg
        go_enter Try.func7, Try.ntmps7
        go_wp2_with fail
        refine (alive_any _).mono ?_
        rintro e w1 ⟨rfl, hB1⟩
        go_wp2_with fail
        go_ret
        exact ⟨rfl, hB1⟩
      | false =>
        obtain rfl : c = 0 := by
          have a1 := of_decide_eq_false h1
          have a2 := of_decide_eq_false h2
          have a3 := of_decide_eq_false h3
          omega
        clear hg
        go_enter Try.func7, Try.ntmps7
        go_wp2_with fail
        refine (alive_any _).mono ?_
        rintro e w1 ⟨rfl, hB1⟩
        go_wp2_with fail
        go_ret
        exact ⟨rfl, hB1⟩

theorem block_cell' {w : World} {b : Nat} {cur : Array Value} {t : TypeId} {f : Nat × Nat} (h : w.heap[b]? = some (.cells cur t f)) (i : Nat) : w.cell? ⟨b, i, none⟩ = cur[i]? := by
  simp [World.cell?, h]
theorem block_free' {w : World} {b : Nat} {cur : Array Value} {t : TypeId} {f : Nat × Nat} (h : w.heap[b]? = some (.cells cur t f)) (i : Nat) (hi : i < f.1) : w.frozen? ⟨b, i, none⟩ = false := by
  simp [World.frozen?, h]; omega
theorem block_set' {w : World} {b i : Nat} {cur : Array Value} {u : Value} {t : TypeId} {f : Nat × Nat} (h : w.heap[b]? = some (.cells cur t f)) : (w.setCell ⟨b, i, none⟩ u).heap[b]? = some (.cells (cur.setIfInBounds i u) t f) := by
  have hlt := lt_of_block h
  have h' : w.heap[b] = .cells cur t f := by simpa [Array.getElem?_eq_getElem hlt] using h
  show (w.heap.modify b _)[b]? = _
  rw [Array.getElem?_eq_getElem (by simpa using hlt), Array.getElem_modify_self, h']
  rfl
theorem bytesRow_get (s : ByteArray) (cap j : Nat) (hj : j < s.size) : (bytesRow s cap)[j]? = some (.int .u8 ((s[j]'hj).toNat : Int)) := by
  have hj2 : j < s.data.size := hj
  simp [bytesRow, Array.getElem?_append]
  rw [if_pos hj, Array.getElem?_eq_getElem hj2]
  rfl
theorem crc_set (l : List UInt8) (k : Nat) (hk : k < l.length) (b : UInt8) (h : b ≠ l[k]) : crc (l.set k b) ≠ crc l := by
  have e : l = l.take k ++ l[k] :: l.drop (k + 1) := by rw [List.getElem_cons_drop, List.take_append_drop]
  have e2 : l.set k b = l.take k ++ b :: l.drop (k + 1) := by rw [List.set_eq_take_append_cons_drop, if_pos hk]
  rw [e2]
  conv => rhs; rw [e]
  exact crc_turned _ _ _ _ h

set_option maxHeartbeats 400000 in
theorem one_some (s : ByteArray) (k c : Nat) (w : World) (hs : s.size ≤ 4096) (hk : k < s.size) (hc : 0 < c) (hc2 : c < 256) :
    Calls Try.prog 7 #[.string s, .int .i64 k, .int .u8 c] w (LawEnd w) := by
  have h1 : decide ((4096 : Int) < (s.size : Int)) = false := by simp; omega
  have h2 : decide ((k : Int) < 0) = false := by simp
  have h3 : decide ((s.size : Int) ≤ (k : Int)) = false := by simp; omega
  have h4 : ((c : Int) == 0) = false := by simp; omega
  have hcv := fun w1 => run_bytes_of_string w1 9 22 5 s Try.underlying9 Try.underlying22 Try.underlying5
  have Hcv := Lib.hid hcv
  clear hcv
  go_enter Try.func7, Try.ntmps7
  go_wp2_with fail
  refine (alive_any _).mono ?_
  rintro e w1 ⟨rfl, hB1⟩
  have hcw := Hcv.out w1
  generalize hcap : grownCap w1 s.size 0 5 = cap at *
  obtain ⟨row, hrow⟩ : ∃ row, row = bytesRow s cap := ⟨_, rfl⟩
  rw [← hrow] at hcw
  have hget : ∀ j (hj : j < s.size), row[j]? = some (.int .u8 ((s[j]'hj).toNat : Int)) := fun j hj => by rw [hrow]; exact bytesRow_get s cap j hj
  have hrsz : s.size ≤ row.size := by
    have := (Array.getElem?_eq_some_iff.1 (hget k hk)).1
    rw [hrow]; simp [bytesRow]
  obtain ⟨w2, hw2⟩ : ∃ w2, w2 = w1.drew.alloc (.cells row 5 (row.size, row.size + 1)) := ⟨_, rfl⟩
  rw [← hw2] at hcw
  have hblk : w2.heap[w1.heap.size]? = some (.cells row 5 (row.size, row.size + 1)) := by rw [hw2]; exact heap_alloc_new w1.drew _
  have hB2 : Below w1.heap.size w1 w2 := by rw [hw2]; exact ((Below.refl _ w1).drew).alloc (Nat.le_refl _) _
  have hB02 := hB1.trans (hB2.mono hB1.size)
  have hcell : w2.cell? ⟨w1.heap.size, k, none⟩ = some (.int .u8 ((s[k]'hk).toNat : Int)) := by rw [block_cell' hblk]; exact hget k hk
  have hfz : w2.frozen? ⟨w1.heap.size, k, none⟩ = false := block_free' hblk k (by omega)
  have hxor : bits BinOp.xor IntKind.u8 ((s[k]'hk).toNat : Int) (c : Int) = (((s[k]'hk).toNat ^^^ c : Nat) : Int) := u8_xor_nat _ _ (s[k]'hk).toNat_lt hc2
  have hxl : (s[k]'hk).toNat ^^^ c < 256 := Nat.xor_lt_two_pow (n := 8) (s[k]'hk).toNat_lt hc2
  obtain ⟨l2, hl2⟩ : ∃ l2, l2 = s.data.toList.set k (UInt8.ofNat ((s[k]'hk).toNat ^^^ c)) := ⟨_, rfl⟩
  have hl2s : l2.length = s.size := by rw [hl2, List.length_set, ba_len]
  obtain ⟨w3, hw3⟩ : ∃ w3, w3 = w2.setCell ⟨w1.heap.size, k, none⟩ (.int .u8 (((s[k]'hk).toNat ^^^ c : Nat) : Int)) := ⟨_, rfl⟩
  have hblk3 : w3.heap[w1.heap.size]? = some (.cells (row.setIfInBounds k (.int .u8 (((s[k]'hk).toNat ^^^ c : Nat) : Int))) 5 (row.size, row.size + 1)) := by rw [hw3]; exact block_set' hblk
  have hconv : (convert 22 9 (.slice (some ⟨w1.heap.size, 0, none⟩) s.size cap)).run Try.prog w3 = .ok (.string (mkB l2)) w3 := by
    rw [← hl2s]
    exact run_convert_bytes_back w3 22 9 5 ⟨w1.heap.size, 0, none⟩ cap l2 Try.underlying22 Try.underlying5 Try.underlying9 (fun j hj => by
      rw [add_none, Nat.zero_add, block_cell' hblk3, Array.getElem?_setIfInBounds]
      have hjs : j < s.size := by omega
      by_cases hjk : k = j
      · subst hjk
        rw [if_pos rfl, if_pos (by omega)]
        simp [hl2, UInt8.toNat_ofNat', Nat.mod_eq_of_lt hc2]
      · rw [if_neg hjk, hget j hjs]
        simp only [hl2, List.getElem_set_ne hjk]
        rfl)
  have hne : crc l2 ≠ crc s.data.toList := by
    rw [hl2]
    exact crc_set s.data.toList k (by rw [ba_len]; exact hk) _ (by
      intro e
      have e2 := congrArg UInt8.toNat e
      rw [UInt8.toNat_ofNat', Nat.mod_eq_of_lt hxl] at e2
      have e3 : (s[k]'hk).toNat ^^^ c = (s[k]'hk).toNat ^^^ 0 := by rw [Nat.xor_zero]; exact e2
      rw [Nat.xor_comm _ c, Nat.xor_comm _ 0] at e3
      have := xor_cancel e3
      omega)
  have hk1 := fun w1 => check_any (mkB l2) w1 (by rw [mkB_size, hl2s]; omega)
  have hk2 := fun w1 => check_any s w1 (by omega)
  rw [mkB_toList] at hk1
  have hbn : ((crc l2 : Int) != (crc s.data.toList : Int)) = true := by rw [bne_iff_ne]; intro e; exact hne (by omega)
  generalize crc l2 = x at *
  generalize crc s.data.toList = y at *
  generalize mkB l2 = m at *
  have hB3 : Below w1.heap.size w2 w3 := by rw [hw3]; exact (Below.refl w1.heap.size w2).setCell (p := ⟨w1.heap.size, k, none⟩) (Nat.le_refl _) _
  have hB03 := hB02.trans (hB3.mono hB1.size)
  rw [hw3] at hconv hB03
  have Hk1 := Lib.hid hk1
  have Hk2 := Lib.hid hk2
  have h5 : decide (s.size ≤ k) = false := by simp; omega
  have hks : (k : Int) < (s.size : Int) := by omega
  generalize (s[k]'hk).toNat = b at *
  rw [← hxor] at hconv hB03
  clear hk1 hk2 hne hxl hl2s hblk3 hw3 hblk hget hrsz hw2 hB2 hB02 hB3 hcap hrow hl2 hxor hB1
  go_wp2_with fail
  refine (Hk1.out _).mono ?_
  rintro e w4 ⟨rfl, rfl⟩
  go_wp2_with fail
  refine (Hk2.out _).mono ?_
  rintro e w4 ⟨rfl, rfl⟩
  go_wp2_with fail
  go_ret
  exact ⟨rfl, hB03⟩

theorem one_walk (s : ByteArray) (at_ c : Int) (w : World) (hs : s.size ≤ 140737488351232) (hc : (Lit.int .u8 c).wf = true) :
    Calls Try.prog 7 #[.string s, .int .i64 at_, .int .u8 c] w (LawEnd w) := by
  have hcb := wf_u8 hc
  by_cases hg : 4096 < s.size ∨ at_ < 0 ∨ (s.size : Int) ≤ at_ ∨ c = 0
  · exact one_none s at_ c w hs hg
  · obtain ⟨k, rfl⟩ : ∃ k : Nat, at_ = k := ⟨at_.toNat, by omega⟩
    obtain ⟨d, rfl⟩ : ∃ d : Nat, c = d := ⟨c.toNat, by omega⟩
    exact one_some s k d w (by omega) (by omega) (by omega) (by omega)
end Go.Proofs.Ytcbddkncaeancaa
