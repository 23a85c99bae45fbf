/- Walks: strings.IndexAny and ContainsAny of whatever bytes. -/
import Derived.Test.YtkmachhfibcdlaaDoorBa
import Derived.Lib.OthersKept
import Derived.WalkMore
import Derived.Shelf.Small.Utf8
namespace Go.Proofs.YtkmachhfibcdlaaDoor
set_option linter.unusedVariables false
set_option linter.unusedSimpArgs false
open Go.ChangeShapes Go.WideShapes Go.ChangeAt Go.RowKit

theorem valid_any (r : Int) (w : World) : Calls Tryd.prog 68 #[.int .i32 r] w fun e w' => e = .returned (.bool (Lib.validRune r)) ∧ w' = w :=
  Any.utf8_ValidRune (ρ := Tryd.lays152_ren) { Tryd.lays152 with } r w
theorem idxByte_any (s : ByteArray) (c : Int) (w : World) : Calls Tryd.prog 67 #[.string s, .int .u8 c] w fun e w' => e = .returned (.int .i64 (Lib.indexByte s.data.toList c.toNat.toUInt8)) ∧ w' = w :=
  Any.strings_IndexByte (ρ := Tryd.lays152_ren) { Tryd.lays152 with } s c w
def Low (cs : ByteArray) : Prop := ∀ b ∈ cs.data.toList, b.toNat < 128
theorem Low.at {cs : ByteArray} (h : Low cs) {i : Nat} (hi : i < cs.size) : (cs[i]'hi).toNat < 128 := h _ (List.mem_of_getElem? (Lib.data_getElem? cs i hi))
theorem low_none {cs : ByteArray} (h : Low cs) (a e : Nat) (c : UInt8) (hc : 128 ≤ c.toNat) : Lib.indexByte (cs.extract a e).data.toList c = -1 := by
  have hcon := Lib.contains_iff_indexByte (cs.extract a e).data.toList c
  have hn : (cs.extract a e).data.toList.contains c = false := by
    rw [Bool.eq_false_iff]
    intro hx
    have := h c (mem_extract (List.contains_iff_mem.1 hx))
    omega
  rw [hn] at hcon
  have := of_decide_eq_false hcon.symm
  rcases ib_or (cs.extract a e).data.toList c with h1 | ⟨n, _, h1⟩
  · exact h1
  · omega
set_option maxRecDepth 100000 in
set_option maxHeartbeats 4000000 in
theorem indexRune_high (cs : ByteArray) (HA : Low cs) (hn : cs.size ≤ 1048576) (r : Int) (h128 : 128 ≤ r) (w : World) :
    Calls Tryd.prog 59 #[.string cs, .int .i32 r] w fun e w' => e = .returned (.int .i64 (-1)) ∧ Below w.heap.size w w' := by
  have h0r : (0 : Int) ≤ r := by omega
  have hlt : ¬ r < 128 := by omega
  have HAs := Lib.hid HA
  clear HA
  by_cases h3 : r = 65533
  · subst h3
    clear h0r hlt h128
    go_enter Tryd.func59, Tryd.ntmps59
    go_wp2_with fail
    go_loopg [5, 6] cs.size (fun g _ _ wr => ∃ i : Nat, i + g = cs.size ∧ wr = w.iter cs i)
    case atStart => exact ⟨0, by omega, rfl⟩
    case round =>
      obtain ⟨i, hig, rfl⟩ := hrel
      cases gk with
      | zero =>
        obtain rfl : i = cs.size := by omega
        have hnx := run_next_end (P := Tryd.prog) w cs cs.size
        go_wp2_with fail
        go_ret
        exact ⟨rfl, (Below.refl _ _).alloc (Nat.le_refl _) _⟩
      | succ g =>
        have hi : i < cs.size := by omega
        have hx128 := HAs.out.at hi
        have hnx := fun ty => run_next_ascii (P := Tryd.prog) w cs i ty hi hx128
        obtain ⟨x, hx⟩ : ∃ x : UInt8, cs[i]'hi = x := ⟨_, rfl⟩
        rw [hx] at hnx hx128
        have hne : ((x.toNat : Int) == 65533) = false := beq_eq_false_iff_ne.2 (by omega)
        clear hx
        go_wp2_with fail
        go_roundg g
        case measure => omega
        case rel => exact ⟨i + 1, by omega, rfl⟩
  have hne : (r == 65533) = false := beq_eq_false_iff_ne.2 h3
  have HV := Lib.hid (fun w1 => valid_any r w1)
  clear h3
  by_cases hv : Lib.validRune r = true
  case neg =>
    rw [Bool.not_eq_true] at hv
    rw [hv] at HV
    clear hv
    go_enter Tryd.func59, Tryd.ntmps59
    go_wp2_with fail
    refine (HV.out _).mono ?_
    rintro e w1 ⟨rfl, rfl⟩
    go_wp2_with fail
    go_ret
    exact ⟨rfl, Below.refl _ _⟩
  rw [hv] at HV
  have hvu : Utf8.valid r = true := by
    rw [validRune_eq]
    unfold Lib.validRune at hv
    unfold validRune
    have := of_decide_eq_true hv
    exact decide_eq_true (by omega)
  obtain ⟨f1, f2, f3⟩ := encode_facts r hvu h128
  obtain ⟨rs, hrs⟩ : ∃ rs, Utf8.encode r = rs := ⟨_, rfl⟩
  rw [hrs] at f1 f2 f3
  have hcv : ∀ w1, (convert 21 9 (.int .i32 r)).run Tryd.prog w1 = .ok (.string rs) w1 := fun w1 => by
    rw [run_convert_int_string w1 21 9 .i32 r (by kernel_rfl) (by kernel_rfl), hrs]
  clear hv hvu hrs
  have hl0 : rs.size - 1 < rs.size := by omega
  obtain ⟨y, hy⟩ : ∃ y : UInt8, rs[rs.size - 1]'hl0 = y := ⟨_, rfl⟩
  have hy128 := f3 hl0
  rw [hy] at hy128
  have hsI : (2 : Int) ≤ (rs.size : Int) := by omega
  have hs4 : (rs.size : Int) ≤ 4 := by omega
  obtain ⟨m, hm⟩ : ∃ m, rs.size = m + 1 := ⟨rs.size - 1, by omega⟩
  have hml : m < rs.size := by omega
  have hy2 : rs[m]'hml = y := by rw [← hy]; congr 1; omega
  have hrm : ((rs.size : Int) - 1) = (m : Int) := by omega
  have hcn : (cs.size : Int) ≤ 1048576 := by omega
  clear hy
  go_enter Tryd.func59, Tryd.ntmps59
  go_wp2_with fail
  refine (HV.out _).mono ?_
  rintro e w1 ⟨rfl, rfl⟩
  go_wp2_with fail
  go_step3
  go_wp2_with fail
  go_loopg [9, 10, 11, 12] 1 (fun g a b _ _ wr => a = .int .i64 m ∧ b = .int .i64 0 ∧ wr = w1 ∧ g = 1)
  case atStart => exact ⟨rfl, rfl, rfl, rfl⟩
  case round =>
    obtain ⟨rfl, rfl, rfl, rfl⟩ := hrel
    by_cases hmc : m < cs.size
    case neg =>
      have hmcI : ¬ (m : Int) < (cs.size : Int) := by omega
      go_wp2_with fail
      go_ret
      exact ⟨rfl, Below.refl _ _⟩
    have hmcI : (m : Int) < (cs.size : Int) := by omega
    have hml2 : (m : Int) < (rs.size : Int) := by omega
    have hx128 := HAs.out.at hmc
    have hneq : ((((cs[m]'hmc).toNat : Int)) != ((y.toNat : Int))) = true := by
      rw [bne_iff_ne]; omega
    have HB := Lib.hid (fun w2 => idxByte_any (cs.extract (m + 1) cs.size) (y.toNat : Int) w2)
    have hlo : Lib.indexByte (cs.extract (m + 1) cs.size).data.toList ((y.toNat : Int)).toNat.toUInt8 = -1 := by
      refine low_none HAs.out _ _ _ ?_
      simp
      exact hy128
    rw [hlo] at HB
    have hBd : ∀ w2, Calls Tryd.prog 67 #[.string (cs.extract (m + 1) cs.size), .int .u8 (y.toNat : Int)] w2 fun e w3 => e = .returned (.int .i64 (-1)) ∧ w3 = w2 := HB.out
    have hm1 : ((m : Int) + 1) ≤ (cs.size : Int) := by omega
    clear hlo HB
    go_wp2_with fail
    go_step3
    go_wp2_with fail
    go_quiet (fail)
    have HB1 : Hid (Below wr.heap.size wr (wr.drewN nq)) := Lib.hid (below_drewN (Below.refl _ _) nq)
    generalize wr.drewN nq = w2 at *
    go_wp2_with fail
    have hBx : ∀ w3, Below w2.heap.size w2 w3 → Calls Tryd.prog 67 #[.string (cs.extract (m + 1) cs.size), .int .u8 (y.toNat : Int)] w3 fun e w4 => e = .returned (.int .i64 (-1)) ∧ Below w2.heap.size w2 w4 := fun w3 h => (hBd w3).mono (fun e w4 hh => ⟨hh.1, by rw [hh.2]; exact h⟩)
    have hBe := Lib.hid hBx
    clear hBx
    clear hBd
    refine wp_region_class (Below w2.heap.size w2) (by kernel_rfl) (by kernel_rfl) (Below.refl _ _).drew ?_
    repeat (go_big_quiet_step (first | (intro hh; with_reducible exact hBe.out _ hh) | (intro _; rfl)))
    refine wpQuiet_nil ?_
    intro w5 hB5
    have HB5 := Lib.hid (HB1.out.trans (hB5.mono HB1.out.size))
    clear hB5 hBe
    go_wp2_with fail
    simp only [Exit.noGoto_ret, Exit.inBlock, Exit.then]
    go_ret
    exact ⟨rfl, HB5.out⟩
theorem dec_cont (n b0 b1 b2 b3 : Nat) (h0 : 128 ≤ b0) : (∀ k, (Lib.decodeN n b0 b1 b2 b3).2 = k → (2 ≤ k → 128 ≤ b1) ∧ (3 ≤ k → 128 ≤ b2) ∧ (4 ≤ k → 128 ≤ b3)) ∧ (Lib.decodeN n b0 b1 b2 b3).2 ≤ 4 := by
  unfold Lib.decodeN
  rw [if_neg (by omega)]
  repeat' split
  all_goals (refine ⟨fun k hk => ?_, ?_⟩ <;> simp at * <;> omega)
theorem no_high {s cs : ByteArray} (HA : Low cs) {i : Nat} (hi : i < s.size) (hx : 128 ≤ (s[i]'hi).toNat) (h : Lib.NoAny s.data.toList cs.data.toList i) : Lib.NoAny s.data.toList cs.data.toList (i + (Utf8.decode s i).2) := by
  intro j b hj hb
  rcases Nat.lt_or_ge j i with h1 | h1
  · exact h j b h1 hb
  have hjl : j < s.size := by have := (List.getElem?_eq_some_iff.1 hb).1; simpa using this
  rw [byt_list hjl] at hb
  injection hb with hb
  have hh : 128 ≤ (s.get! j).toNat := by
    rw [Lib.decode_at] at hj
    have hg : s.get! i = s[i]'hi := get_is s i hi
    obtain ⟨c1, c2⟩ := dec_cont (s.size - i) (s.get! i).toNat (s.get! (i + 1)).toNat (s.get! (i + 2)).toNat (s.get! (i + 3)).toNat (by rw [hg]; exact hx)
    obtain ⟨d1, d2, d3⟩ := c1 _ rfl
    rcases (by omega : j = i ∨ j = i + 1 ∨ j = i + 2 ∨ j = i + 3) with rfl | rfl | rfl | rfl
    · rw [hg]; exact hx
    · exact d1 (by omega)
    · exact d2 (by omega)
    · exact d3 (by omega)
  rw [Bool.eq_false_iff]
  intro hc
  have := HA b (List.contains_iff_mem.1 hc)
  rw [← hb] at this
  omega
theorem dec_in {s : ByteArray} {i : Nat} (hi : i < s.size) : 1 ≤ (Utf8.decode s i).2 ∧ i + (Utf8.decode s i).2 ≤ s.size := by
  rw [Lib.decode_at]
  have := decodeN_range (s.size - i) (s.get! i).toNat (s.get! (i + 1)).toNat (s.get! (i + 2)).toNat (s.get! (i + 3)).toNat (by omega)
  omega
theorem should_any (n : Int) (w : World) : Calls Tryd.prog 60 #[.int .i64 n] w fun e w' => e = .returned (.bool (decide (8 < n))) ∧ w' = w :=
  Any.strings_shouldUseASCIISet (ρ := Tryd.lays153_ren) { Tryd.lays153 with } n w
/-- strings.IndexAny of a text, for any bytes. -/
def IdxG (cs : ByteArray) : Prop := ∀ (s : ByteArray) (w : World), s.size ≤ 1048576 → Calls Tryd.prog 51 #[.string s, .string cs] w fun e w' => e = .returned (.int .i64 (Lib.indexAny s.data.toList cs.data.toList)) ∧ Below w.heap.size w w'
/-- Texts of more than eight bytes. -/
theorem idx_long (s cs : ByteArray) (w : World) (h2 : 2 ≤ cs.size) (hc : cs.size < 4294967281) (hac : ∀ (j : Nat) b, cs.data.toList[j]? = some b → b.toNat < 128) (h8 : 8 < s.size) (hs : s.size ≤ 1048576) :
    Calls Tryd.prog 51 #[.string s, .string cs] w fun e w' => e = .returned (.int .i64 (Lib.indexAny s.data.toList cs.data.toList)) ∧ Below w.heap.size w w' := by
  refine (Tryd.strings_IndexAny_long (zero_of_info (P := Tryd.prog) (t := 86) (n := 256) (by kernel_rfl)).1 s cs w h2 h8 (by omega) hc hac).mono ?_
  rintro e w' ⟨rfl, rfl⟩
  exact ⟨rfl, ((Below.refl _ _).alloc (Nat.le_refl _) _).alloc (by simp) _⟩
set_option maxRecDepth 100000 in
set_option maxHeartbeats 4000000 in
theorem idx_short (cs : ByteArray) (HA : Low cs) (h2 : 2 ≤ cs.size) (hn : cs.size ≤ 1048576) (s : ByteArray) (w : World) (h8 : s.size ≤ 8) :
    Calls Tryd.prog 51 #[.string s, .string cs] w fun e w' => e = .returned (.int .i64 (Lib.indexAny s.data.toList cs.data.toList)) ∧ Below w.heap.size w w' := by
  have hemp : (cs.toList == ([] : List UInt8)) = false := by
    rw [str_lit cs #[]]
    exact decide_eq_false (fun h => by rw [h] at h2; exact absurd h2 (by decide))
  have hn1 : ((cs.size : Int) == 1) = false := beq_eq_false_iff_ne.2 (by omega)
  have h8z : decide ((8 : Int) < (s.size : Int)) = false := decide_eq_false (by omega)
  have HS := Lib.hid (fun w1 => should_any (s.size : Int) w1)
  rw [h8z] at HS
  have HAs := Lib.hid HA
  have HI := Lib.hid (fun (r : Int) w1 (h0 : 0 ≤ r) (h1 : r < 128) => Tryd.strings_IndexRune_ascii cs r w1 h0 h1)
  have HH := Lib.hid (fun (r : Int) w1 (h1 : 128 ≤ r) => indexRune_high cs HA hn r h1 w1)
  have h8I : (s.size : Int) ≤ 8 := by omega
  clear HA h8z
  go_enter Tryd.func51, Tryd.ntmps51
  go_wp2_with fail
  refine (HS.out _).mono ?_
  rintro e w1 ⟨rfl, rfl⟩
  go_wp2_with fail
  go_loopg [9, 10] s.size (fun g _ _ wr => ∃ i : Nat, i + g = s.size ∧ wr.heap[w1.heap.size]? = some (.stringIter s i) ∧ Hid (Below w1.heap.size w1 wr) ∧ Hid (Lib.NoAny s.data.toList cs.data.toList i))
  case atStart => exact ⟨0, by omega, World.iter_heap _ _ _, Lib.hid ((Below.refl _ _).alloc (Nat.le_refl _) _), Lib.hid (Lib.NoAny.zero _ _)⟩
  case round =>
    obtain ⟨i, hig, hit, HB, HN⟩ := hrel
    by_cases hi : i < s.size
    case neg =>
      have hnx := fun ty => Lib.run_next_end_at (P := Tryd.prog) wr w1.heap.size s i ty hit hi
      have hres := Lib.hid (Lib.indexAny_none (s := s.data.toList) (chars := cs.data.toList) (by rw [← Lib.size_eq]; rw [show s.size = i by omega]; exact HN.out))
      go_wp2_with fail
      go_ret
      exact ⟨by rw [hres.out]; rfl, HB.out⟩
    have hnx := fun ty => Lib.run_next_any_at (P := Tryd.prog) wr w1.heap.size s i ty hit hi
    obtain ⟨hd1, hd2⟩ := dec_in hi
    have hit2 := Lib.hid (Lib.iterAt_heap wr w1.heap.size s i (i + (Utf8.decode s i).2) hit)
    have HB2 := Lib.hid (Lib.below_iterAt HB.out (Nat.le_refl _) s (i + (Utf8.decode s i).2))
    obtain ⟨x, hx⟩ : ∃ x : UInt8, s[i]'hi = x := ⟨_, rfl⟩
    have Hx := Lib.hid (show s.data.toList[i]? = some x from by rw [← hx]; exact Lib.data_getElem? s i hi)
    by_cases hx128 : x.toNat < 128
    · have hdec : Utf8.decode s i = (x.toNat, 1) := by rw [decode_ascii s i hi (by rw [hx]; exact hx128), hx]
      rw [hdec] at hnx hit2 HB2
      have hcon := Lib.contains_iff_indexByte cs.data.toList x
      have HX := Lib.hid (fun w2 => HI.out (x.toNat : Int) w2 (by omega) (by omega))
      have hback : ((x.toNat : Int)).toNat.toUInt8 = x := by simp
      rw [hback] at HX
      clear hdec hx hback hit
      have hit3 : (wr.iterAt w1.heap.size s (i + 1)).heap[w1.heap.size]? = some (.stringIter s (i + 1)) := hit2.out
      cases hin : cs.data.toList.contains x
      · rw [hin] at hcon
        have hlt : ¬ ((0 : Int) ≤ Lib.indexByte cs.data.toList x) := of_decide_eq_false hcon.symm
        have HN2 := Lib.hid (HN.out.succ Hx.out hin)
        clear hcon hin
        generalize Lib.indexByte cs.data.toList x = ix at *
        go_wp2_with fail
        refine (HX.out _).mono ?_
        rintro e w2 ⟨rfl, rfl⟩
        go_wp2_with fail
        go_roundg (gk - 1)
        case measure => omega
        case rel => exact ⟨i + 1, by omega, hit3, HB2, HN2⟩
      · rw [hin] at hcon
        have hge : (0 : Int) ≤ Lib.indexByte cs.data.toList x := of_decide_eq_true hcon.symm
        have HR := Lib.hid (Lib.indexAny_hit HN.out Hx.out hin)
        clear hcon hin
        generalize Lib.indexByte cs.data.toList x = ix at *
        go_wp2_with fail
        refine (HX.out _).mono ?_
        rintro e w2 ⟨rfl, rfl⟩
        go_wp2_with fail
        go_ret
        exact ⟨by rw [HR.out]; rfl, HB2.out⟩
    · have hhi := decode_high s i hi (by rw [hx]; omega)
      have HN2 := Lib.hid (no_high HAs.out hi (by rw [hx]; omega) HN.out)
      obtain ⟨c, hc⟩ : ∃ c, (Utf8.decode s i).1 = c := ⟨_, rfl⟩
      obtain ⟨k, hk⟩ : ∃ k, (Utf8.decode s i).2 = k := ⟨_, rfl⟩
      rw [hc, hk] at hnx
      rw [hk] at hit2 HB2 HN2 hd1 hd2
      rw [hc] at hhi
      have hc128 : (128 : Int) ≤ (c : Int) := by omega
      have HX := Lib.hid (fun w2 => HH.out (c : Int) w2 hc128)
      have hm1 : ¬ ((0 : Int) ≤ -1) := by decide
      clear hc hk hhi hx hit
      obtain ⟨w2, hw2⟩ : ∃ w2, wr.iterAt w1.heap.size s (i + k) = w2 := ⟨_, rfl⟩
      rw [hw2] at hnx hit2 HB2
      clear hw2
      go_wp2_with fail
      refine (HX.out _).mono ?_
      rintro e w3 ⟨rfl, hB⟩
      have hlt := lt_of_block hit2.out
      have hit3 := (hB.block w1.heap.size hlt).trans hit2.out
      have HB3 := Lib.hid (HB2.out.trans (hB.mono (Nat.le_of_lt hlt)))
      clear hB
      go_wp2_with fail
      go_roundg (gk - k)
      case measure => omega
      case rel => exact ⟨i + k, by omega, hit3, HB3, HN2⟩
theorem low_of {cs : ByteArray} (h : ∀ (j : Nat) b, cs.data.toList[j]? = some b → b.toNat < 128) : Low cs := fun b hb => by
  obtain ⟨j, hj⟩ := List.getElem?_of_mem hb
  exact h j b hj
theorem idxG_of (cs : ByteArray) (hac : ∀ (j : Nat) b, cs.data.toList[j]? = some b → b.toNat < 128) (h2 : 2 ≤ cs.size) (hn : cs.size ≤ 1048576) : IdxG cs := by
  intro s w hs
  by_cases h8 : s.size ≤ 8
  · exact idx_short cs (low_of hac) h2 hn s w h8
  · exact idx_long s cs w h2 (by omega) hac (by omega) hs
theorem any_of {cs : ByteArray} (h : IdxG cs) (s : ByteArray) (w : World) (hs : s.size ≤ 1048576) : Calls Tryd.prog 45 #[.string s, .string cs] w fun e w' => e = .returned (.bool (Lib.containsAny s.data.toList cs.data.toList)) ∧ Below w.heap.size w w' := by
  have HX := Lib.hid (fun w1 => h s w1 hs)
  have hor := ia_or cs.data.toList s.data.toList
  have ha : Lib.containsAny s.data.toList cs.data.toList = decide (0 ≤ Lib.indexAny s.data.toList cs.data.toList) := rfl
  rw [ha]
  generalize Lib.indexAny s.data.toList cs.data.toList = ix at *
  rcases hor with rfl | ⟨n, _, rfl⟩
  · go_enter Tryd.func45, Tryd.ntmps45
    go_wp2_with fail
    refine (HX.out _).mono ?_
    rintro r w1 ⟨rfl, hB⟩
    have HB := Lib.hid hB
    clear hB
    go_wp2_with fail
    go_ret
    exact ⟨rfl, HB.out⟩
  · have hn0 : (0 : Int) ≤ (n : Int) := by omega
    rw [decide_eq_true hn0]
    go_enter Tryd.func45, Tryd.ntmps45
    go_wp2_with fail
    refine (HX.out _).mono ?_
    rintro r w1 ⟨rfl, hB⟩
    have HB := Lib.hid hB
    clear hB
    go_wp2_with fail
    go_ret
    first
      | exact ⟨rfl, HB.out⟩
      | exact ⟨by rw [decide_eq_true hn0], HB.out⟩
end Go.Proofs.YtkmachhfibcdlaaDoor
