/- Walks: strings.IndexRune at a sign of several bytes, among bytes below 128; strings.IndexAny of whatever bytes; Walks: two headers held against each other. -/
import Derived.Test.YtejogobhnbjpdaaDoorP4
import Derived.Laws.Runes
import Derived.Laws.RangeAny
import Derived.Lib.OthersKept
import Derived.WalkMore
import Derived.Shelf.Small.Utf8
namespace Go.Proofs.YtejogobhnbjpdaaDoor
set_option linter.unusedVariables false
set_option linter.unusedSimpArgs false
open Go.ChangeShapes Go.WideShapes Go.ChangeAt Go.RowKit

theorem valid_any (r : Int) (w : World) : Calls Tryd.prog 125 #[.int .i32 r] w fun e w' => e = .returned (.bool (Lib.validRune r)) ∧ w' = w :=
  Any.utf8_ValidRune (ρ := Tryd.lays152_ren) { Tryd.lays152 with } r w
theorem idxByte_any (s : ByteArray) (c : Int) (w : World) : Calls Tryd.prog 124 #[.string s, .int .u8 c] w fun e w' => e = .returned (.int .i64 (Lib.indexByte s.data.toList c.toNat.toUInt8)) ∧ w' = w :=
  Any.strings_IndexByte (ρ := Tryd.lays152_ren) { Tryd.lays152 with } s c w
def Low (cs : ByteArray) : Prop := ∀ b ∈ cs.data.toList, b.toNat < 128
theorem Low.at {cs : ByteArray} (h : Low cs) {i : Nat} (hi : i < cs.size) : (cs[i]'hi).toNat < 128 := h _ (List.mem_of_getElem? (Lib.data_getElem? cs i hi))
theorem low_none {cs : ByteArray} (h : Low cs) (a e : Nat) (c : UInt8) (hc : 128 ≤ c.toNat) : Lib.indexByte (cs.extract a e).data.toList c = -1 := by
  have hcon := Lib.contains_iff_indexByte (cs.extract a e).data.toList c
  have hn : (cs.extract a e).data.toList.contains c = false := by
    rw [Bool.eq_false_iff]
    intro hx
    have := h c (mem_extract (List.contains_iff_mem.1 hx))
    omega
  rw [hn] at hcon
  have := of_decide_eq_false hcon.symm
  rcases ib_or (cs.extract a e).data.toList c with h1 | ⟨n, _, h1⟩
  · exact h1
  · omega
set_option maxRecDepth 100000 in
set_option maxHeartbeats 4000000 in
theorem indexRune_high (cs : ByteArray) (HA : Low cs) (hn : cs.size ≤ 1048576) (r : Int) (h128 : 128 ≤ r) (w : World) :
    Calls Tryd.prog 114 #[.string cs, .int .i32 r] w fun e w' => e = .returned (.int .i64 (-1)) ∧ Below w.heap.size w w' := by
  have h0r : (0 : Int) ≤ r := by omega
  have hlt : ¬ r < 128 := by omega
  have HAs := Lib.hid HA
  clear HA
  by_cases h3 : r = 65533
  · subst h3
    clear h0r hlt h128
    go_enter Tryd.func114, Tryd.ntmps114
    go_wp2_with fail
    go_loopg [5, 6] cs.size (fun g _ _ wr => ∃ i : Nat, i + g = cs.size ∧ wr = w.iter cs i)
    case atStart => exact ⟨0, by omega, rfl⟩
    case round =>
      obtain ⟨i, hig, rfl⟩ := hrel
      cases gk with
      | zero =>
        obtain rfl : i = cs.size := by omega
        have hnx := run_next_end (P := Tryd.prog) w cs cs.size
        go_wp2_with fail
        go_ret
        exact ⟨rfl, (Below.refl _ _).alloc (Nat.le_refl _) _⟩
      | succ g =>
        have hi : i < cs.size := by omega
        have hx128 := HAs.out.at hi
        have hnx := fun ty => run_next_ascii (P := Tryd.prog) w cs i ty hi hx128
        obtain ⟨x, hx⟩ : ∃ x : UInt8, cs[i]'hi = x := ⟨_, rfl⟩
        rw [hx] at hnx hx128
        have hne : ((x.toNat : Int) == 65533) = false := beq_eq_false_iff_ne.2 (by omega)
        clear hx
        go_wp2_with fail
        go_roundg g
        case measure => omega
        case rel => exact ⟨i + 1, by omega, rfl⟩
  have hne : (r == 65533) = false := beq_eq_false_iff_ne.2 h3
  have HV := Lib.hid (fun w1 => valid_any r w1)
  clear h3
  by_cases hv : Lib.validRune r = true
  case neg =>
    rw [Bool.not_eq_true] at hv
    rw [hv] at HV
    clear hv
    go_enter Tryd.func114, Tryd.ntmps114
    go_wp2_with fail
    refine (HV.out _).mono ?_
    rintro e w1 ⟨rfl, rfl⟩
    go_wp2_with fail
    go_ret
    exact ⟨rfl, Below.refl _ _⟩
  rw [hv] at HV
  have hvu : Utf8.valid r = true := by
    rw [validRune_eq]
    unfold Lib.validRune at hv
    unfold validRune
    have := of_decide_eq_true hv
    exact decide_eq_true (by omega)
  obtain ⟨f1, f2, f3⟩ := encode_facts r hvu h128
  obtain ⟨rs, hrs⟩ : ∃ rs, Utf8.encode r = rs := ⟨_, rfl⟩
  rw [hrs] at f1 f2 f3
  have hcv : ∀ w1, (convert 21 9 (.int .i32 r)).run Tryd.prog w1 = .ok (.string rs) w1 := fun w1 => by
    rw [run_convert_int_string w1 21 9 .i32 r (by kernel_rfl) (by kernel_rfl), hrs]
  clear hv hvu hrs
  have hl0 : rs.size - 1 < rs.size := by omega
  obtain ⟨y, hy⟩ : ∃ y : UInt8, rs[rs.size - 1]'hl0 = y := ⟨_, rfl⟩
  have hy128 := f3 hl0
  rw [hy] at hy128
  have hsI : (2 : Int) ≤ (rs.size : Int) := by omega
  have hs4 : (rs.size : Int) ≤ 4 := by omega
  obtain ⟨m, hm⟩ : ∃ m, rs.size = m + 1 := ⟨rs.size - 1, by omega⟩
  have hml : m < rs.size := by omega
  have hy2 : rs[m]'hml = y := by rw [← hy]; congr 1; omega
  have hrm : ((rs.size : Int) - 1) = (m : Int) := by omega
  have hcn : (cs.size : Int) ≤ 1048576 := by omega
  clear hy
  go_enter Tryd.func114, Tryd.ntmps114
  go_wp2_with fail
  refine (HV.out _).mono ?_
  rintro e w1 ⟨rfl, rfl⟩
  go_wp2_with fail
  go_step3
  go_wp2_with fail
  go_loopg [9, 10, 11, 12] 1 (fun g a b _ _ wr => a = .int .i64 m ∧ b = .int .i64 0 ∧ wr = w1 ∧ g = 1)
  case atStart => exact ⟨rfl, rfl, rfl, rfl⟩
  case round =>
    obtain ⟨rfl, rfl, rfl, rfl⟩ := hrel
    by_cases hmc : m < cs.size
    case neg =>
      have hmcI : ¬ (m : Int) < (cs.size : Int) := by omega
      go_wp2_with fail
      go_ret
      exact ⟨rfl, Below.refl _ _⟩
    have hmcI : (m : Int) < (cs.size : Int) := by omega
    have hml2 : (m : Int) < (rs.size : Int) := by omega
    have hx128 := HAs.out.at hmc
    have hneq : ((((cs[m]'hmc).toNat : Int)) != ((y.toNat : Int))) = true := by
      rw [bne_iff_ne]; omega
    have HB := Lib.hid (fun w2 => idxByte_any (cs.extract (m + 1) cs.size) (y.toNat : Int) w2)
    have hlo : Lib.indexByte (cs.extract (m + 1) cs.size).data.toList ((y.toNat : Int)).toNat.toUInt8 = -1 := by
      refine low_none HAs.out _ _ _ ?_
      simp
      exact hy128
    rw [hlo] at HB
    have hBd : ∀ w2, Calls Tryd.prog 124 #[.string (cs.extract (m + 1) cs.size), .int .u8 (y.toNat : Int)] w2 fun e w3 => e = .returned (.int .i64 (-1)) ∧ w3 = w2 := HB.out
    have hm1 : ((m : Int) + 1) ≤ (cs.size : Int) := by omega
    clear hlo HB
    go_wp2_with fail
    go_step3
    go_wp2_with fail
    go_quiet (fail)
    have HB1 : Hid (Below wr.heap.size wr (wr.drewN nq)) := Lib.hid (below_drewN (Below.refl _ _) nq)
    generalize wr.drewN nq = w2 at *
    go_wp2_with fail
    have hBx : ∀ w3, Below w2.heap.size w2 w3 → Calls Tryd.prog 124 #[.string (cs.extract (m + 1) cs.size), .int .u8 (y.toNat : Int)] w3 fun e w4 => e = .returned (.int .i64 (-1)) ∧ Below w2.heap.size w2 w4 := fun w3 h => (hBd w3).mono (fun e w4 hh => ⟨hh.1, by rw [hh.2]; exact h⟩)
    have hBe := Lib.hid hBx
    clear hBx
    clear hBd
    refine wp_region_class (Below w2.heap.size w2) (by kernel_rfl) (by kernel_rfl) (Below.refl _ _).drew ?_
    repeat (go_big_quiet_step (first | (intro hh; with_reducible exact hBe.out _ hh) | (intro _; rfl)))
    refine wpQuiet_nil ?_
    intro w5 hB5
    have HB5 := Lib.hid (HB1.out.trans (hB5.mono HB1.out.size))
    clear hB5 hBe
    go_wp2_with fail
    simp only [Exit.noGoto_ret, Exit.inBlock, Exit.then]
    go_ret
    exact ⟨rfl, HB5.out⟩
theorem dec_cont (n b0 b1 b2 b3 : Nat) (h0 : 128 ≤ b0) : (∀ k, (Lib.decodeN n b0 b1 b2 b3).2 = k → (2 ≤ k → 128 ≤ b1) ∧ (3 ≤ k → 128 ≤ b2) ∧ (4 ≤ k → 128 ≤ b3)) ∧ (Lib.decodeN n b0 b1 b2 b3).2 ≤ 4 := by
  unfold Lib.decodeN
  rw [if_neg (by omega)]
  repeat' split
  all_goals (refine ⟨fun k hk => ?_, ?_⟩ <;> simp at * <;> omega)
theorem no_high {s cs : ByteArray} (HA : Low cs) {i : Nat} (hi : i < s.size) (hx : 128 ≤ (s[i]'hi).toNat) (h : Lib.NoAny s.data.toList cs.data.toList i) : Lib.NoAny s.data.toList cs.data.toList (i + (Utf8.decode s i).2) := by
  intro j b hj hb
  rcases Nat.lt_or_ge j i with h1 | h1
  · exact h j b h1 hb
  have hjl : j < s.size := by have := (List.getElem?_eq_some_iff.1 hb).1; simpa using this
  rw [byt_list hjl] at hb
  injection hb with hb
  have hh : 128 ≤ (s.get! j).toNat := by
    rw [Lib.decode_at] at hj
    have hg : s.get! i = s[i]'hi := get_is s i hi
    obtain ⟨c1, c2⟩ := dec_cont (s.size - i) (s.get! i).toNat (s.get! (i + 1)).toNat (s.get! (i + 2)).toNat (s.get! (i + 3)).toNat (by rw [hg]; exact hx)
    obtain ⟨d1, d2, d3⟩ := c1 _ rfl
    rcases (by omega : j = i ∨ j = i + 1 ∨ j = i + 2 ∨ j = i + 3) with rfl | rfl | rfl | rfl
    · rw [hg]; exact hx
    · exact d1 (by omega)
    · exact d2 (by omega)
    · exact d3 (by omega)
  rw [Bool.eq_false_iff]
  intro hc
  have := HA b (List.contains_iff_mem.1 hc)
  rw [← hb] at this
  omega
theorem dec_in {s : ByteArray} {i : Nat} (hi : i < s.size) : 1 ≤ (Utf8.decode s i).2 ∧ i + (Utf8.decode s i).2 ≤ s.size := by
  rw [Lib.decode_at]
  have := decodeN_range (s.size - i) (s.get! i).toNat (s.get! (i + 1)).toNat (s.get! (i + 2)).toNat (s.get! (i + 3)).toNat (by omega)
  omega
theorem should_any (n : Int) (w : World) : Calls Tryd.prog 115 #[.int .i64 n] w fun e w' => e = .returned (.bool (decide (8 < n))) ∧ w' = w :=
  Any.strings_shouldUseASCIISet (ρ := Tryd.lays153_ren) { Tryd.lays153 with } n w
set_option maxRecDepth 100000 in
set_option maxHeartbeats 4000000 in
theorem idx_short (cs : ByteArray) (HA : Low cs) (h2 : 2 ≤ cs.size) (hn : cs.size ≤ 1048576) (s : ByteArray) (w : World) (h8 : s.size ≤ 8) :
    Calls Tryd.prog 104 #[.string s, .string cs] w fun e w' => e = .returned (.int .i64 (Lib.indexAny s.data.toList cs.data.toList)) ∧ Below w.heap.size w w' := by
  have hemp : (cs.toList == ([] : List UInt8)) = false := by
    rw [str_lit cs #[]]
    exact decide_eq_false (fun h => by rw [h] at h2; exact absurd h2 (by decide))
  have hn1 : ((cs.size : Int) == 1) = false := beq_eq_false_iff_ne.2 (by omega)
  have h8z : decide ((8 : Int) < (s.size : Int)) = false := decide_eq_false (by omega)
  have HS := Lib.hid (fun w1 => should_any (s.size : Int) w1)
  rw [h8z] at HS
  have HAs := Lib.hid HA
  have HI := Lib.hid (fun (r : Int) w1 (h0 : 0 ≤ r) (h1 : r < 128) => Tryd.strings_IndexRune_ascii cs r w1 h0 h1)
  have HH := Lib.hid (fun (r : Int) w1 (h1 : 128 ≤ r) => indexRune_high cs HA hn r h1 w1)
  have h8I : (s.size : Int) ≤ 8 := by omega
  clear HA h8z
  go_enter Tryd.func104, Tryd.ntmps104
  go_wp2_with fail
  refine (HS.out _).mono ?_
  rintro e w1 ⟨rfl, rfl⟩
  go_wp2_with fail
  go_loopg [9, 10] s.size (fun g _ _ wr => ∃ i : Nat, i + g = s.size ∧ wr.heap[w1.heap.size]? = some (.stringIter s i) ∧ Hid (Below w1.heap.size w1 wr) ∧ Hid (Lib.NoAny s.data.toList cs.data.toList i))
  case atStart => exact ⟨0, by omega, World.iter_heap _ _ _, Lib.hid ((Below.refl _ _).alloc (Nat.le_refl _) _), Lib.hid (Lib.NoAny.zero _ _)⟩
  case round =>
    obtain ⟨i, hig, hit, HB, HN⟩ := hrel
    by_cases hi : i < s.size
    case neg =>
      have hnx := fun ty => Lib.run_next_end_at (P := Tryd.prog) wr w1.heap.size s i ty hit hi
      have hres := Lib.hid (Lib.indexAny_none (s := s.data.toList) (chars := cs.data.toList) (by rw [← Lib.size_eq]; rw [show s.size = i by omega]; exact HN.out))
      go_wp2_with fail
      go_ret
      exact ⟨by rw [hres.out]; rfl, HB.out⟩
    have hnx := fun ty => Lib.run_next_any_at (P := Tryd.prog) wr w1.heap.size s i ty hit hi
    obtain ⟨hd1, hd2⟩ := dec_in hi
    have hit2 := Lib.hid (Lib.iterAt_heap wr w1.heap.size s i (i + (Utf8.decode s i).2) hit)
    have HB2 := Lib.hid (Lib.below_iterAt HB.out (Nat.le_refl _) s (i + (Utf8.decode s i).2))
    obtain ⟨x, hx⟩ : ∃ x : UInt8, s[i]'hi = x := ⟨_, rfl⟩
    have Hx := Lib.hid (show s.data.toList[i]? = some x from by rw [← hx]; exact Lib.data_getElem? s i hi)
    by_cases hx128 : x.toNat < 128
    · have hdec : Utf8.decode s i = (x.toNat, 1) := by rw [decode_ascii s i hi (by rw [hx]; exact hx128), hx]
      rw [hdec] at hnx hit2 HB2
      have hcon := Lib.contains_iff_indexByte cs.data.toList x
      have HX := Lib.hid (fun w2 => HI.out (x.toNat : Int) w2 (by omega) (by omega))
      have hback : ((x.toNat : Int)).toNat.toUInt8 = x := by simp
      rw [hback] at HX
      clear hdec hx hback hit
      have hit3 : (wr.iterAt w1.heap.size s (i + 1)).heap[w1.heap.size]? = some (.stringIter s (i + 1)) := hit2.out
      cases hin : cs.data.toList.contains x
      · rw [hin] at hcon
        have hlt : ¬ ((0 : Int) ≤ Lib.indexByte cs.data.toList x) := of_decide_eq_false hcon.symm
        have HN2 := Lib.hid (HN.out.succ Hx.out hin)
        clear hcon hin
        generalize Lib.indexByte cs.data.toList x = ix at *
        go_wp2_with fail
        refine (HX.out _).mono ?_
        rintro e w2 ⟨rfl, rfl⟩
        go_wp2_with fail
        go_roundg (gk - 1)
        case measure => omega
        case rel => exact ⟨i + 1, by omega, hit3, HB2, HN2⟩
      · rw [hin] at hcon
        have hge : (0 : Int) ≤ Lib.indexByte cs.data.toList x := of_decide_eq_true hcon.symm
        have HR := Lib.hid (Lib.indexAny_hit HN.out Hx.out hin)
        clear hcon hin
        generalize Lib.indexByte cs.data.toList x = ix at *
        go_wp2_with fail
        refine (HX.out _).mono ?_
        rintro e w2 ⟨rfl, rfl⟩
        go_wp2_with fail
        go_ret
        exact ⟨by rw [HR.out]; rfl, HB2.out⟩
    · have hhi := decode_high s i hi (by rw [hx]; omega)
      have HN2 := Lib.hid (no_high HAs.out hi (by rw [hx]; omega) HN.out)
      obtain ⟨c, hc⟩ : ∃ c, (Utf8.decode s i).1 = c := ⟨_, rfl⟩
      obtain ⟨k, hk⟩ : ∃ k, (Utf8.decode s i).2 = k := ⟨_, rfl⟩
      rw [hc, hk] at hnx
      rw [hk] at hit2 HB2 HN2 hd1 hd2
      rw [hc] at hhi
      have hc128 : (128 : Int) ≤ (c : Int) := by omega
      have HX := Lib.hid (fun w2 => HH.out (c : Int) w2 hc128)
      have hm1 : ¬ ((0 : Int) ≤ -1) := by decide
      clear hc hk hhi hx hit
      obtain ⟨w2, hw2⟩ : ∃ w2, wr.iterAt w1.heap.size s (i + k) = w2 := ⟨_, rfl⟩
      rw [hw2] at hnx hit2 HB2
      clear hw2
      go_wp2_with fail
      refine (HX.out _).mono ?_
      rintro e w3 ⟨rfl, hB⟩
      have hlt := lt_of_block hit2.out
      have hit3 := (hB.block w1.heap.size hlt).trans hit2.out
      have HB3 := Lib.hid (HB2.out.trans (hB.mono (Nat.le_of_lt hlt)))
      clear hB
      go_wp2_with fail
      go_roundg (gk - k)
      case measure => omega
      case rel => exact ⟨i + k, by omega, hit3, HB3, HN2⟩
theorem low_of {cs : ByteArray} (h : ∀ (j : Nat) b, cs.data.toList[j]? = some b → b.toNat < 128) : Low cs := fun b hb => by
  obtain ⟨j, hj⟩ := List.getElem?_of_mem hb
  exact h j b hj
theorem idxG_of (cs : ByteArray) (hac : ∀ (j : Nat) b, cs.data.toList[j]? = some b → b.toNat < 128) (h2 : 2 ≤ cs.size) (hn : cs.size ≤ 1048576) : IdxG cs := by
  intro s w hs
  by_cases h8 : s.size ≤ 8
  · exact idx_short cs (low_of hac) h2 hn s w h8
  · exact idx_long s cs w h2 (by omega) hac (by omega) hs
theorem anyC : AnyC := anyC_of (idxG_of wAny (ascii_of_all (by decide)) (by decide) (by decide))
theorem idxC : IdxC := idxC_of (idxG_of wBetween (ascii_of_all (by decide)) (by decide) (by decide))
end Go.Proofs.YtejogobhnbjpdaaDoor
namespace Go.Proofs.YtejogobhnbjpdaaDoor
set_option linter.unusedVariables false
set_option linter.unusedSimpArgs false
open Go.ChangeShapes Go.WideShapes Go.ChangeAt Go.RowKit

def ImB (t : Im) : Prop := t.1.size ≤ 4194304 ∧ t.2.1.size ≤ 4194304 ∧ t.2.2 ≤ 8388608
theorem lits_im {t : Im} (h : ImB t) : Tryd.prog.keyLits 2 44 (imV t) = some [.string t.1.data.toList, .string t.2.1.data.toList, .int .i64 t.2.2] := by
  obtain ⟨h1, h2, h3⟩ := h
  have hs : ∀ z : ByteArray, z.size ≤ 4194304 → Tryd.prog.keyLits 1 9 [.string z] = some [.string z.data.toList] := fun z hz => by
    simp only [Program.keyLits, Tryd.underlying9]
    rw [if_pos (by unfold maxLen; omega)]
  have hi : ∀ z : Nat, z ≤ 8388608 → Tryd.prog.keyLits 1 3 [.int .i64 z] = some [.int .i64 z] := fun z hz => by
    simp only [Program.keyLits, Tryd.underlying3]
    rw [if_pos ⟨trivial, by
      have e1 : IntKind.i64.min = -9223372036854775808 := by decide
      have e2 : IntKind.i64.max = 9223372036854775807 := by decide
      simp only [Lit.wf, Bool.and_eq_true, decide_eq_true_eq, e1, e2]; omega⟩]
  have hc : Tryd.prog.cellsOf 44 = 3 := by kernel_rfl
  have hc9 : Tryd.prog.cellsOf 9 = 1 := by kernel_rfl
  have hc3 : Tryd.prog.cellsOf 3 = 1 := by kernel_rfl
  unfold Program.keyLits imV
  rw [Tryd.underlying44]
  simp only [List.length_cons, List.length_nil, hc]
  rw [if_pos ⟨trivial, by kernel_rfl⟩]
  simp only [List.mapM_cons, List.mapM_nil, hc9, hc3, List.drop_zero, List.take_succ_cons, List.take_zero, hs t.1 h1, List.drop_succ_cons, hs t.2.1 h2, hi t.2.2 h3]
  rfl
theorem eq_im {a b : Im} (ha : ImB a) (hb : ImB b) (w : World) : (Op.equalIn 10000 44 (.agg (imV a).toArray) (.agg (imV b).toArray)).run Tryd.prog w = .ok (decide (a = b)) w := by
  have hc : Tryd.prog.cellsOf 44 = 3 := by kernel_rfl
  have hf : ∀ t : Im, (Value.agg (imV t).toArray).formed Tryd.prog 44 = true := fun t => by simp [Value.formed, Tryd.underlying44, hc, imV]
  obtain ⟨r, hr, hiff⟩ := run_equalIn_deep (P := Tryd.prog) 9998 2 44 (by kernel_rfl) w 2 2 _ _ _ _ (hf a) (hf b) (lits_im ha) (lits_im hb)
  have : r = decide (a = b) := by
    rw [Bool.eq_iff_iff, hiff, decide_eq_true_iff]
    obtain ⟨a1, a2, a3⟩ := a
    obtain ⟨b1, b2, b3⟩ := b
    constructor
    · intro h
      simp only [List.cons.injEq, Lit.string.injEq, Lit.int.injEq, true_and, and_true] at h
      have h3 : a3 = b3 := by omega
      rw [ba_of h.1, ba_of h.2.1, h3]
    · intro h
      cases h; rfl
  rw [← this]
  exact hr
theorem lat_shape {n : Nat} {X : Type} {fl : X → List Value} {w : World} {v : Value} {l : List X} (h : LAt n fl w v l) : ∃ p cap, v = .slice p l.length cap ∧ (0 < l.length → ∃ b off, p = some ⟨b, off, none⟩) := by
  rcases h.2 with ⟨p, cap, hv, rfl⟩ | ⟨b', off', cap', hv, _⟩
  · exact ⟨p, cap, hv, fun h => by cases h⟩
  · exact ⟨_, _, hv, fun _ => ⟨_, _, rfl⟩⟩
theorem lat_len {n : Nat} {X : Type} {fl : X → List Value} {w : World} {v : Value} {l : List X} (h : LAt n fl w v l) : l.length ≤ maxLen := by
  rcases h.2 with ⟨p, cap, hv, rfl⟩ | ⟨b, off, cap, hv, _, h3, h4, _⟩
  · exact Nat.zero_le _
  · exact Nat.le_trans h3 h4
theorem im_load {w : World} {b off cap n_ : Nat} {l : List Im} (h : LAt 3 imV w (.slice (some ⟨b, off, none⟩) n_ cap) l) {i : Nat} {x : Im} (hx : l[i]? = some x) :
    b < w.heap.size ∧ ∀ w1, Below w.heap.size w w1 → (loadVar 44 ⟨b, off + i * 3, none⟩).run Tryd.prog w1 = .ok (.agg (imV x).toArray) w1 := by
  obtain ⟨hl, h⟩ := h
  rcases h with ⟨p, cap, hv, rfl⟩ | ⟨b', off', cap', hv, hb, hcap, hmax, hcell⟩
  · simp at hx
  · injection hv with hv1 hv2 hv3
    injection hv1 with hv1
    injection hv1 with hv4 hv5
    subst hv4; subst hv5
    refine ⟨hb, fun w1 hB => run_loadVar_mid (P := Tryd.prog) w1 b (off + i * 3) 44 (imV x) _ (fun j z hz => ?_) Tryd.underlying44 rfl (by kernel_rfl)⟩
    have hj : j < 3 := (List.getElem?_eq_some_iff.1 hz).1
    have := hcell (i * 3 + j) z (by rw [LF_at l (fun y _ => imV_len y) i x hx j hj]; exact hz)
    rw [Nat.add_assoc]
    exact (hB.cell (p := ⟨b, off + (i * 3 + j), none⟩) hb).trans this
theorem im_cell {w : World} {b off cap n_ : Nat} {l : List Im} (h : LAt 3 imV w (.slice (some ⟨b, off, none⟩) n_ cap) l) {i : Nat} {x : Im} (hx : l[i]? = some x) :
    b < w.heap.size ∧ w.cell? ⟨b, off + i * 3, none⟩ = some (.string x.1) ∧ w.cell? ⟨b, off + i * 3 + 1, none⟩ = some (.string x.2.1) ∧ w.cell? ⟨b, off + i * 3 + 2, none⟩ = some (.int .i64 x.2.2) := by
  obtain ⟨hl, h⟩ := h
  rcases h with ⟨p, cap, hv, rfl⟩ | ⟨b', off', cap', hv, hb, hcap, hmax, hcell⟩
  · simp at hx
  · injection hv with hv1 hv2 hv3
    injection hv1 with hv1
    injection hv1 with hv4 hv5
    subst hv4; subst hv5
    have hk : ∀ j, j < 3 → ∀ z, (imV x)[j]? = some z → w.cell? ⟨b, off + (i * 3 + j), none⟩ = some z := fun j hj z hz => hcell (i * 3 + j) z (by rw [LF_at l (fun y _ => imV_len y) i x hx j hj]; exact hz)
    refine ⟨hb, ?_, ?_, ?_⟩
    · exact hk 0 (by omega) _ rfl
    · rw [Nat.add_assoc]; exact hk 1 (by omega) _ rfl
    · rw [Nat.add_assoc]; exact hk 2 (by omega) _ rfl
theorem str_cell {w : World} {b off cap n_ : Nat} {l : List ByteArray} (h : LAt 1 strV w (.slice (some ⟨b, off, none⟩) n_ cap) l) {i : Nat} {x : ByteArray} (hx : l[i]? = some x) :
    b < w.heap.size ∧ w.cell? ⟨b, off + i, none⟩ = some (.string x) := by
  obtain ⟨hl, h⟩ := h
  rcases h with ⟨p, cap, hv, rfl⟩ | ⟨b', off', cap', hv, hb, hcap, hmax, hcell⟩
  · simp at hx
  · injection hv with hv1 hv2 hv3
    injection hv1 with hv1
    injection hv1 with hv4 hv5
    subst hv4; subst hv5
    refine ⟨hb, ?_⟩
    have := hcell (i * 1 + 0) (.string x) (by rw [LF_at l (fun y _ => strV_len y) i x hx 0 (by omega)]; rfl)
    rw [Nat.mul_one, Nat.add_zero] at this
    exact this
theorem str_load {w : World} {b off cap n_ : Nat} {l : List ByteArray} (h : LAt 1 strV w (.slice (some ⟨b, off, none⟩) n_ cap) l) {i : Nat} {x : ByteArray} (hx : l[i]? = some x) :
    b < w.heap.size ∧ ∀ w1, Below w.heap.size w w1 → (loadVar 9 ⟨b, off + i, none⟩).run Tryd.prog w1 = .ok (.string x) w1 := by
  obtain ⟨h1, h2⟩ := str_cell h hx
  refine ⟨h1, fun w1 hB => ?_⟩
  have hc := (hB.cell (p := ⟨b, off + i, none⟩) h1).trans h2
  simp [go_sem, hc]
def hdL (h : Hdr) (iv ev : Value) : Array Value := #[.string h.name, iv, .string h.build, ev, .int .i64 h.fault, .int .i64 h.at_]
def sameH (a b : Hdr) : Bool := decide (a.name = b.name ∧ a.build = b.build ∧ a.fault = b.fault ∧ a.at_ = b.at_ ∧ a.imp = b.imp ∧ a.emb = b.emb)
theorem sameH_no {a b : Hdr} (h : ¬ (a.name = b.name ∧ a.build = b.build ∧ a.fault = b.fault ∧ a.at_ = b.at_ ∧ a.imp = b.imp ∧ a.emb = b.emb)) : sameH a b = false := decide_eq_false h
theorem ne_of_eqb {α : Type} [BEq α] {a b : α} {r : Bool} (h : (a == b) = r) : (a != b) = !r := by rw [bne, h]
set_option maxRecDepth 100000 in
set_option maxHeartbeats 4000000 in
theorem sameHdr_any (a b : Hdr) (u v : Value) (w : World) (hu : HAt w u a) (hv : HAt w v b) (hA : ∀ t ∈ a.imp, ImB t) (hB : ∀ t ∈ b.imp, ImB t) (hla : a.imp.length ≤ 16777216) (hlb : b.imp.length ≤ 16777216) :
    Calls Tryd.prog 25 #[u, v] w fun e w' => e = .returned (.bool (sameH a b)) ∧ Below w.heap.size w w' := by
  obtain ⟨iv1, ev1, rfl, hi1, he1⟩ := hu
  obtain ⟨iv2, ev2, rfl, hi2, he2⟩ := hv
  obtain ⟨p1, c1, rfl, hp1⟩ := lat_shape hi1
  obtain ⟨p2, c2, rfl, hp2⟩ := lat_shape hi2
  obtain ⟨q1, d1, rfl, hq1⟩ := lat_shape he1
  obtain ⟨q2, d2, rfl, hq2⟩ := lat_shape he2
  obtain ⟨n1, I1, b1, E1, f1, a1⟩ := a
  obtain ⟨n2, I2, b2, E2, f2, a2⟩ := b
  dsimp only at *
  have hea : E1.length ≤ 9223372036854775807 := lat_len he1
  have heb : E2.length ≤ 9223372036854775807 := lat_len he2
  have kn := str_eqb n1 n2
  have kb := str_eqb b1 b2
  have kf := int_eqb f1 f2
  have ka := int_eqb a1 a2
  have ki := int_eqb I1.length I2.length
  have ke := int_eqb E1.length E2.length
  have Hi1 := Lib.hid hi1
  have Hi2 := Lib.hid hi2
  have He1 := Lib.hid he1
  have He2 := Lib.hid he2
  have Hp1 := Lib.hid hp1
  have Hp2 := Lib.hid hp2
  have Hq1 := Lib.hid hq1
  have Hq2 := Lib.hid hq2
  have HA := Lib.hid hA
  have HB := Lib.hid hB
  clear hi1 hi2 he1 he2 hp1 hp2 hq1 hq2 hA hB
  have hBw : Hid (∀ A B : Array Value, Below w.heap.size w ((w.alloc (.cells A 41)).alloc (.cells B 41))) := Lib.hid (fun A B => ((Below.refl _ _).alloc (Nat.le_refl _) _).alloc (by simp) _)
  by_cases t1 : n1 = n2
  case neg =>
    have HF := Lib.hid (sameH_no (a := ⟨n1, I1, b1, E1, f1, a1⟩) (b := ⟨n2, I2, b2, E2, f2, a2⟩) (fun h => t1 h.1))
    rw [decide_eq_false t1] at kn
    have knn := ne_of_eqb kn
    clear t1 kb kf ka ki ke 
    go_enter Tryd.func25, Tryd.ntmps25
    go_wp2_with fail
    go_ret
    exact ⟨by rw [HF.out]; rfl, hBw.out _ _⟩
  rw [decide_eq_true t1] at kn
  have knn := ne_of_eqb kn
  by_cases t2 : b1 = b2
  case neg =>
    have HF := Lib.hid (sameH_no (a := ⟨n1, I1, b1, E1, f1, a1⟩) (b := ⟨n2, I2, b2, E2, f2, a2⟩) (fun h => t2 h.2.1))
    rw [decide_eq_false t2] at kb
    have kbn := ne_of_eqb kb
    clear t2 kf ka ki ke t1
    go_enter Tryd.func25, Tryd.ntmps25
    go_wp2_with fail
    go_ret
    exact ⟨by rw [HF.out]; rfl, hBw.out _ _⟩
  rw [decide_eq_true t2] at kb
  have kbn := ne_of_eqb kb
  by_cases t3 : f1 = f2
  case neg =>
    have HF := Lib.hid (sameH_no (a := ⟨n1, I1, b1, E1, f1, a1⟩) (b := ⟨n2, I2, b2, E2, f2, a2⟩) (fun h => t3 h.2.2.1))
    rw [decide_eq_false t3] at kf
    have kfn := ne_of_eqb kf
    clear t3 ka ki ke t1 t2
    go_enter Tryd.func25, Tryd.ntmps25
    go_wp2_with fail
    go_ret
    exact ⟨by rw [HF.out]; rfl, hBw.out _ _⟩
  rw [decide_eq_true t3] at kf
  have kfn := ne_of_eqb kf
  by_cases t4 : a1 = a2
  case neg =>
    have HF := Lib.hid (sameH_no (a := ⟨n1, I1, b1, E1, f1, a1⟩) (b := ⟨n2, I2, b2, E2, f2, a2⟩) (fun h => t4 h.2.2.2.1))
    rw [decide_eq_false t4] at ka
    have kan := ne_of_eqb ka
    clear t4 ki ke t1 t2 t3
    go_enter Tryd.func25, Tryd.ntmps25
    go_wp2_with fail
    go_ret
    exact ⟨by rw [HF.out]; rfl, hBw.out _ _⟩
  rw [decide_eq_true t4] at ka
  have kan := ne_of_eqb ka
  by_cases t5 : I1.length = I2.length
  case neg =>
    have HF := Lib.hid (sameH_no (a := ⟨n1, I1, b1, E1, f1, a1⟩) (b := ⟨n2, I2, b2, E2, f2, a2⟩) (fun h => t5 (congrArg List.length h.2.2.2.2.1)))
    rw [decide_eq_false t5] at ki
    have kin := ne_of_eqb ki
    clear t5 ke t1 t2 t3 t4
    go_enter Tryd.func25, Tryd.ntmps25
    go_wp2_with fail
    go_ret
    exact ⟨by rw [HF.out]; rfl, hBw.out _ _⟩
  rw [decide_eq_true t5] at ki
  have kin := ne_of_eqb ki
  by_cases t6 : E1.length = E2.length
  case neg =>
    have HF := Lib.hid (sameH_no (a := ⟨n1, I1, b1, E1, f1, a1⟩) (b := ⟨n2, I2, b2, E2, f2, a2⟩) (fun h => t6 (congrArg List.length h.2.2.2.2.2)))
    rw [decide_eq_false t6] at ke
    have ken := ne_of_eqb ke
    clear t6  t1 t2 t3 t4 t5
    go_enter Tryd.func25, Tryd.ntmps25
    go_wp2_with fail
    go_ret
    exact ⟨by rw [HF.out]; rfl, hBw.out _ _⟩
  rw [decide_eq_true t6] at ke
  have ken := ne_of_eqb ke
  subst t1 t2 t3 t4
  obtain ⟨len, hl⟩ : ∃ len, len = I1.length := ⟨_, rfl⟩
  obtain ⟨el, hel⟩ : ∃ el, el = E1.length := ⟨_, rfl⟩
  have Hl1 := Lib.hid hl
  have Hl2 := Lib.hid (hl.trans t5)
  have He1l := Lib.hid hel
  have He2l := Lib.hid (hel.trans t6)
  rw [← t5, ← hl] at Hi2 Hp2 ki hlb
  rw [← hl] at Hi1 Hp1 hla
  rw [← t6, ← hel] at He2 Hq2 ke heb
  rw [← hel] at He1 Hq1 hea
  rw [← t5, ← t6, ← hl, ← hel]
  clear t5 t6 hl hel
  have HT := Lib.hid (fun (h1 : I1 = I2) (h2 : E1 = E2) => show sameH ⟨n1, I1, b1, E1, f1, a1⟩ ⟨n1, I2, b1, E2, f1, a1⟩ = true from by subst h1; subst h2; exact decide_eq_true ⟨rfl, rfl, rfl, rfl, rfl, rfl⟩)
  have HFi := Lib.hid (fun (h1 : I1 ≠ I2) => sameH_no (a := ⟨n1, I1, b1, E1, f1, a1⟩) (b := ⟨n1, I2, b1, E2, f1, a1⟩) (fun h => h1 h.2.2.2.2.1))
  have HFe := Lib.hid (fun (h1 : E1 ≠ E2) => sameH_no (a := ⟨n1, I1, b1, E1, f1, a1⟩) (b := ⟨n1, I2, b1, E2, f1, a1⟩) (fun h => h1 h.2.2.2.2.2))
  generalize sameH ⟨n1, I1, b1, E1, f1, a1⟩ ⟨n1, I2, b1, E2, f1, a1⟩ = ans at *
  have hn1 := heap_alloc_new w (.cells #[.string n1, .slice p1 len c1, .string b1, .slice q1 el d1, .int .i64 f1, .int .i64 a1] 41)
  have hsz1 : (w.alloc (.cells #[.string n1, .slice p1 len c1, .string b1, .slice q1 el d1, .int .i64 f1, .int .i64 a1] 41)).heap.size = w.heap.size + 1 := by simp
  have hn1' := (heap_alloc_old (w.alloc (.cells #[.string n1, .slice p1 len c1, .string b1, .slice q1 el d1, .int .i64 f1, .int .i64 a1] 41)) (.cells #[.string n1, .slice p2 len c2, .string b1, .slice q2 el d2, .int .i64 f1, .int .i64 a1] 41) (show w.heap.size < _ from by rw [hsz1]; omega)).trans hn1
  have hn2 := new2 w (.cells #[.string n1, .slice p1 len c1, .string b1, .slice q1 el d1, .int .i64 f1, .int .i64 a1] 41) (.cells #[.string n1, .slice p2 len c2, .string b1, .slice q2 el d2, .int .i64 f1, .int .i64 a1] 41)
  have Hn1 := Lib.hid hn1'
  have Hn2 := Lib.hid hn2
  have HBa := Lib.hid (hBw.out #[.string n1, .slice p1 len c1, .string b1, .slice q1 el d1, .int .i64 f1, .int .i64 a1] #[.string n1, .slice p2 len c2, .string b1, .slice q2 el d2, .int .i64 f1, .int .i64 a1])
  clear hn1 hsz1 hn1' hn2 hBw
  go_enter Tryd.func25, Tryd.ntmps25
  go_wp2_with fail
  generalize (w.alloc (.cells #[.string n1, .slice p1 len c1, .string b1, .slice q1 el d1, .int .i64 f1, .int .i64 a1] 41)).alloc (.cells #[.string n1, .slice p2 len c2, .string b1, .slice q2 el d2, .int .i64 f1, .int .i64 a1] 41) = w1 at *
  go_loopg [5, 54] len (fun g _ iv wr => ∃ k : Nat, k + g = len ∧ iv = .int .i64 k ∧ Hid (I1.take k = I2.take k) ∧ Hid (Below w1.heap.size w1 wr))
  case atStart => exact ⟨0, by omega, rfl, Lib.hid rfl, Lib.hid (Below.refl _ _)⟩
  case round =>
    obtain ⟨k, hkg, rfl, HK, HB1⟩ := hrel
    have hsz := HB1.out.size
    have hx1 := (HB1.out.block _ (lt_of_block Hn1.out)).trans Hn1.out
    have hx2 := (HB1.out.block _ (lt_of_block Hn2.out)).trans Hn2.out
    have HBw := Lib.hid (HBa.out.trans (HB1.out.mono HBa.out.size))
    by_cases hlt : k < len
    · have hltI : (k : Int) < (len : Int) := by omega
      have hka : k < I1.length := by have := Hl1.out; omega
      have hkb : k < I2.length := by have := Hl2.out; omega
      obtain ⟨g1, o1, rfl⟩ := Hp1.out (by omega)
      obtain ⟨g2, o2, rfl⟩ := Hp2.out (by omega)
      have H1 := Lib.hid (fun w2 (h1 : Below wr.heap.size wr w2) => (im_load Hi1.out (i := k) (List.getElem?_eq_getElem hka)).2 w2 (HBw.out.trans (h1.mono HBw.out.size)))
      have H2 := Lib.hid (fun w2 (h1 : Below wr.heap.size wr w2) => (im_load Hi2.out (i := k) (List.getElem?_eq_getElem hkb)).2 w2 (HBw.out.trans (h1.mono HBw.out.size)))
      have L1 := Lib.hid (fun w2 (h1 : Below wr.heap.size wr w2) => show (loadVar 39 ⟨w.heap.size, 1, none⟩).run Tryd.prog w2 = .ok (.slice (some ⟨g1, o1, none⟩) len c1) w2 from by
        have hbx := (h1.block _ (lt_of_block hx1)).trans hx1
        simp [go_sem, block_cell hbx])
      have L2 := Lib.hid (fun w2 (h1 : Below wr.heap.size wr w2) => show (loadVar 39 ⟨w.heap.size + 1, 1, none⟩).run Tryd.prog w2 = .ok (.slice (some ⟨g2, o2, none⟩) len c2) w2 from by
        have hbx := (h1.block _ (lt_of_block hx2)).trans hx2
        simp [go_sem, block_cell hbx])
      have heq := fun w1 => eq_im (HA.out _ (List.getElem_mem hka)) (HB.out _ (List.getElem_mem hkb)) w1
      obtain ⟨r, hr⟩ : ∃ r, r = decide (I1[k] = I2[k]) := ⟨_, rfl⟩
      rw [← hr] at heq
      have Hr := Lib.hid hr
      generalize (imV I1[k]).toArray = x at *
      generalize (imV I2[k]).toArray = y at *
      clear hr hx1 hx2
      go_wp2_with fail
      refine wp_region_class (Below wr.heap.size wr) (by kernel_rfl) (by kernel_rfl) (Below.refl _ _).drew ?_
      repeat (go_big_quiet_step (first | (intro _; rfl)))
      refine wpQuiet_load_at rfl 39 (.tmp 57) rfl ⟨w.heap.size, 1, none⟩ rfl (.slice (some ⟨g1, o1, none⟩) len c1) L1.out ?_
      simp only [Act.put, List.setIfInBounds_toArray, List.set_cons_succ, List.set_cons_zero]
      repeat (go_big_quiet_step (first | (intro _; rfl)))
      refine wpQuiet_load_at rfl 44 (.tmp 60) rfl ⟨g1, o1 + k * 3, none⟩ rfl (.agg x) H1.out ?_
      simp only [Act.put, List.setIfInBounds_toArray, List.set_cons_succ, List.set_cons_zero]
      repeat (go_big_quiet_step (first | (intro _; rfl)))
      refine wpQuiet_load_at rfl 39 (.tmp 62) rfl ⟨w.heap.size + 1, 1, none⟩ rfl (.slice (some ⟨g2, o2, none⟩) len c2) L2.out ?_
      simp only [Act.put, List.setIfInBounds_toArray, List.set_cons_succ, List.set_cons_zero]
      repeat (go_big_quiet_step (first | (intro _; rfl)))
      refine wpQuiet_load_at rfl 44 (.tmp 65) rfl ⟨g2, o2 + k * 3, none⟩ rfl (.agg y) H2.out ?_
      simp only [Act.put, List.setIfInBounds_toArray, List.set_cons_succ, List.set_cons_zero]
      cases r with
      | false =>
        have Hne := Lib.hid (show I1 ≠ I2 from fun e => by
          subst e
          have := Hr.out
          simp at this)
        repeat (go_big_quiet_step (first | (intro _; rfl)))
        refine wpQuiet_nil ?_
        intro wq hBq
        have hB2 := Lib.hid (HBw.out.trans (hBq.mono HBw.out.size))
        clear hBq heq
        go_wp2_with fail
        go_ret
        exact ⟨by rw [HFi.out Hne.out]; rfl, hB2.out⟩
      | true =>
        have Hn := Lib.hid (same_take hka hkb HK.out (of_decide_eq_true Hr.out.symm))
        repeat (go_big_quiet_step (first | (intro _; rfl)))
        refine wpQuiet_nil ?_
        intro wq hBq
        have hB2 := Lib.hid (HB1.out.trans (hBq.mono HB1.out.size))
        clear hBq heq
        go_wp2_with fail
        go_roundg (gk - 1)
        case measure => omega
        case rel => exact ⟨k + 1, by omega, by go_num, Hn, hB2⟩
    have hnI : ¬ (k : Int) < (len : Int) := by omega
    have Hall : Hid (I1 = I2) := Lib.hid (by
      have h := HK.out
      rwa [List.take_of_length_le (by have := Hl1.out; omega), List.take_of_length_le (by have := Hl2.out; omega)] at h)
    have ca3 := block_cell hx1 3
    have Hx1 := Lib.hid hx1
    have Hx2 := Lib.hid hx2
    clear HK hx1 hx2 HFi
    go_wp2_with fail
    clear ca3 hkg hsz
    go_loopg [6, 72] el (fun g _ iv wz => ∃ k : Nat, k + g = el ∧ iv = .int .i64 k ∧ Hid (E1.take k = E2.take k) ∧ Hid (Below wr.heap.size wr wz))
    case atStart => exact ⟨0, by omega, rfl, Lib.hid rfl, Lib.hid (Below.refl _ _)⟩
    case round =>
      obtain ⟨k, hkg, rfl, HK, HB2⟩ := hrel
      have hx1 := (HB2.out.block _ (lt_of_block Hx1.out)).trans Hx1.out
      have hx2 := (HB2.out.block _ (lt_of_block Hx2.out)).trans Hx2.out
      have HBw2 := Lib.hid (HBw.out.trans (HB2.out.mono HBw.out.size))
      by_cases hlt : k < el
      · have hltI : (k : Int) < (el : Int) := by omega
        have hka : k < E1.length := by have := He1l.out; omega
        have hkb : k < E2.length := by have := He2l.out; omega
        obtain ⟨g1, o1, rfl⟩ := Hq1.out (by omega)
        obtain ⟨g2, o2, rfl⟩ := Hq2.out (by omega)
        have H1 := Lib.hid (fun w2 (h1 : Below wr.heap.size wr w2) => (str_load He1.out (i := k) (List.getElem?_eq_getElem hka)).2 w2 (HBw2.out.trans (h1.mono HBw2.out.size)))
        have H2 := Lib.hid (fun w2 (h1 : Below wr.heap.size wr w2) => (str_load He2.out (i := k) (List.getElem?_eq_getElem hkb)).2 w2 (HBw2.out.trans (h1.mono HBw2.out.size)))
        have L1 := Lib.hid (fun w2 (h1 : Below wr.heap.size wr w2) => show (loadVar 35 ⟨w.heap.size, 3, none⟩).run Tryd.prog w2 = .ok (.slice (some ⟨g1, o1, none⟩) el d1) w2 from by
          have hbx := (h1.block _ (lt_of_block hx1)).trans hx1
          simp [go_sem, block_cell hbx])
        have L2 := Lib.hid (fun w2 (h1 : Below wr.heap.size wr w2) => show (loadVar 35 ⟨w.heap.size + 1, 3, none⟩).run Tryd.prog w2 = .ok (.slice (some ⟨g2, o2, none⟩) el d2) w2 from by
          have hbx := (h1.block _ (lt_of_block hx2)).trans hx2
          simp [go_sem, block_cell hbx])
        have heq := str_eqb E1[k] E2[k]
        obtain ⟨r, hr⟩ : ∃ r, r = decide (E1[k] = E2[k]) := ⟨_, rfl⟩
        rw [← hr] at heq
        have heqn := ne_of_eqb heq
        have Hr := Lib.hid hr
        have Hn := Lib.hid (fun (h : E1[k] = E2[k]) => same_take hka hkb HK.out h)
        have Hne := Lib.hid (fun (h : ¬ E1[k] = E2[k]) => show E1 ≠ E2 from fun e => by
          subst e
          exact h rfl)
        have heqd : r = false → ¬ E1[k] = E2[k] := fun h => of_decide_eq_false (by rw [← hr]; exact h)
        have heqt : r = true → E1[k] = E2[k] := fun h => of_decide_eq_true (by rw [← hr]; exact h)
        have Hd := Lib.hid heqd
        have Ht := Lib.hid heqt
        clear hr hx1 hx2 heqd heqt Hr
        generalize E1[k] = x at *
        generalize E2[k] = y at *
        go_wp2_with fail
        refine wp_region_class (Below wr.heap.size wr) (by kernel_rfl) (by kernel_rfl) (Below.refl _ _).drew ?_
        repeat (go_big_quiet_step (first | (intro _; rfl)))
        refine wpQuiet_load_at rfl 35 (.tmp 75) rfl ⟨w.heap.size, 3, none⟩ rfl (.slice (some ⟨g1, o1, none⟩) el d1) L1.out ?_
        simp only [Act.put, List.setIfInBounds_toArray, List.set_cons_succ, List.set_cons_zero]
        repeat (go_big_quiet_step (first | (intro _; rfl)))
        refine wpQuiet_load_at rfl 9 (.tmp 78) rfl ⟨g1, o1 + k, none⟩ rfl (.string x) H1.out ?_
        simp only [Act.put, List.setIfInBounds_toArray, List.set_cons_succ, List.set_cons_zero]
        repeat (go_big_quiet_step (first | (intro _; rfl)))
        refine wpQuiet_load_at rfl 35 (.tmp 80) rfl ⟨w.heap.size + 1, 3, none⟩ rfl (.slice (some ⟨g2, o2, none⟩) el d2) L2.out ?_
        simp only [Act.put, List.setIfInBounds_toArray, List.set_cons_succ, List.set_cons_zero]
        repeat (go_big_quiet_step (first | (intro _; rfl)))
        refine wpQuiet_load_at rfl 9 (.tmp 83) rfl ⟨g2, o2 + k, none⟩ rfl (.string y) H2.out ?_
        simp only [Act.put, List.setIfInBounds_toArray, List.set_cons_succ, List.set_cons_zero]
        cases r with
        | false =>
          have Hne2 := Lib.hid (Hne.out (Hd.out rfl))
          clear Hne Hd Ht Hn
          repeat (go_big_quiet_step (first | (intro _; rfl)))
          refine wpQuiet_nil ?_
          intro wq hBq
          have hB2 := Lib.hid (HBw2.out.trans (hBq.mono HBw2.out.size))
          clear hBq
          go_wp2_with fail
          go_ret
          exact ⟨by rw [HFe.out Hne2.out]; rfl, hB2.out⟩
        | true =>
          have Hn2 := Lib.hid (Hn.out (Ht.out rfl))
          clear Hne Hd Ht Hn
          repeat (go_big_quiet_step (first | (intro _; rfl)))
          refine wpQuiet_nil ?_
          intro wq hBq
          have hB2 := Lib.hid (HB2.out.trans (hBq.mono HB2.out.size))
          clear hBq
          go_wp2_with fail
          go_roundg (gk - 1)
          case measure => omega
          case rel => exact ⟨k + 1, by omega, by go_num, Hn2, hB2⟩
      have hnI : ¬ (k : Int) < (el : Int) := by omega
      have HallE : Hid (E1 = E2) := Lib.hid (by
        have h := HK.out
        rwa [List.take_of_length_le (by have := He1l.out; omega), List.take_of_length_le (by have := He2l.out; omega)] at h)
      go_wp2_with fail
      go_ret
      exact ⟨by rw [HT.out Hall.out HallE.out]; rfl, HBw2.out⟩
end Go.Proofs.YtejogobhnbjpdaaDoor
