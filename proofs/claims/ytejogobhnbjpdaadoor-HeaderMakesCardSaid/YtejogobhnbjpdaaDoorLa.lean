/- Walks: the statement GolexAlone. -/
import Derived.Test.YtejogobhnbjpdaaDoorHc
namespace Go.Proofs.YtejogobhnbjpdaaDoor
set_option linter.unusedVariables false
set_option linter.unusedSimpArgs false
open Go.ChangeShapes Go.WideShapes Go.ChangeAt Go.RowKit

theorem LAt.take {w : World} {b off cap n_ : Nat} {l : List Tk} (h : LAt 3 tkV w (.slice (some ⟨b, off, none⟩) n_ cap) l) {k : Nat} (hk : k ≤ l.length) : LAt 3 tkV w (.slice (some ⟨b, off, none⟩) k cap) (l.take k) := by
  obtain ⟨hl, h⟩ := h
  refine ⟨fun x hx => hl x (List.mem_of_mem_take hx), ?_⟩
  rcases h with ⟨p, c, hv, rfl⟩ | ⟨b', off', cap', hv, hb, hcap, hmax, hcell⟩
  · have hk0 : k = 0 := by simpa using hk
    subst hk0
    exact .inl ⟨_, _, rfl, rfl⟩
  · injection hv with hv1 hv2 hv3
    injection hv1 with hv1
    injection hv1 with hv4 hv5
    subst hv4; subst hv5; subst hv3
    refine .inr ⟨b, off, cap, by rw [List.length_take, Nat.min_eq_left hk], hb, by rw [List.length_take]; omega, hmax, fun j x hx => hcell j x ?_⟩
    have e2 : LF tkV l = LF tkV (l.take k) ++ LF tkV (l.drop k) := by rw [← LF_app, List.take_append_drop]
    rw [e2, List.getElem?_append_left (List.getElem?_eq_some_iff.1 hx).1]
    exact hx
theorem empty_eq {x : ByteArray} (h : x.size = 0) : x = ⟨#[]⟩ := by
  apply ba_ext
  have : x.data.toList.length = 0 := by rw [← Lib.size_eq]; exact h
  rw [List.eq_nil_of_length_eq_zero this]
theorem isEmpty_eq (x : ByteArray) : (x.toList == ([] : List UInt8)) = decide (x.size = 0) := by
  rw [beq_lst, Bool.eq_iff_iff, decide_eq_true_eq, decide_eq_true_eq, Lib.size_eq]
  constructor
  · intro h; rw [h]; rfl
  · intro h; exact List.eq_nil_of_length_eq_zero h
set_option maxRecDepth 100000 in
set_option maxHeartbeats 1000000 in
theorem alone_walk (s : ByteArray) (w : World) (hs0 : s.size ≤ 140737488351232) (hTab : Tabs w) : Calls Tryd.prog 8 #[.string s] w (LawEnd w) := by
  have HA := Lib.hid (alive_any w hTab)
  have HT := Lib.hid hTab
  clear hTab
  by_cases hbig : 1024 < s.size
  · have hbI : (1024 : Int) < (s.size : Int) := by omega
    go_enter Tryd.func8, Tryd.ntmps8
    go_wp2_with fail
    refine HA.out.mono ?_
    rintro r w1 ⟨rfl, hB⟩
    have HB := Lib.hid hB
    clear hB
    go_wp2_with fail
    go_ret
    exact ⟨rfl, HB.out⟩
  have hbI : ¬ (1024 : Int) < (s.size : Int) := by omega
  have HLX := Lib.hid (fun w1 (h1 : Below w.heap.size w w1) => lex_any s w1 (by omega) (tabs_below HT.out h1))
  have HTb := Lib.hid (lexL_tkb (s := s) (by omega))
  have hlen := (lexL_len s).1
  have HAL := Lib.hid (fun (i k p : Nat) (x s' : ByteArray) h hx hs' => alone_law (s := s) (s' := s') (i := i) (k := k) (p := p) (x := x) h hx hs')
  have HSZ := Lib.hid (fun (i k p : Nat) (x : ByteArray) (h : (lexL s)[i]? = some (k, x, p)) (hx : x.size ≠ 0) => (by
    obtain ⟨g1, g2, g3, g4⟩ := lexT_at s (skN s) [] [] i k p x (Nat.zero_le _) h hx
    have h := (thing_ends g2).2 (by rw [g3]; rfl)
    rw [g3] at h
    have h2 : p + x.size ≤ s.size := h.2.1
    omega : x.size ≤ 1024))
  generalize lexL s = L at *
  go_enter Tryd.func8, Tryd.ntmps8
  go_wp2_with fail
  refine HA.out.mono ?_
  rintro r w1 ⟨rfl, hB⟩
  have HB1 := Lib.hid hB
  clear hB
  go_wp2_with fail
  refine (HLX.out _ HB1.out).mono ?_
  rintro r w2 ⟨v, rfl, hv, hB2⟩
  obtain ⟨pp, cap, rfl, hp⟩ := hv.shape
  have HV := Lib.hid hv
  have HB := Lib.hid (HB1.out.trans (hB2.mono HB1.out.size))
  have Hp := Lib.hid hp
  obtain ⟨len, hl⟩ : ∃ len, len = L.length := ⟨_, rfl⟩
  rw [← hl] at HV Hp hlen ⊢
  have Hl := Lib.hid hl
  clear hv hB2 hp hl
  go_wp2_with fail
  go_loopg [14] len (fun g iv wr => ∃ k : Nat, k + g = len ∧ iv = .int .i64 k ∧ Below w2.heap.size w2 wr)
  case atStart => exact ⟨0, by omega, rfl, Below.refl _ _⟩
  case round =>
    obtain ⟨i, hig, rfl, hBr⟩ := hrel
    by_cases hlt : i < len
    · have hltI : (i : Int) < (len : Int) := by omega
      have hiL : i < L.length := by have := Hl.out; omega
      obtain ⟨g1, o1, rfl⟩ := Hp.out (by omega)
      obtain ⟨⟨k, x, p⟩, hx⟩ : ∃ t, L[i]? = some t := ⟨_, List.getElem?_eq_getElem hiL⟩
      obtain ⟨hg1, e0, e1, e2⟩ := HV.out.cells hx
      have f0 := (hBr.cell (p := ⟨g1, o1 + i * 3, none⟩) hg1).trans e0
      have f1 := (hBr.cell (p := ⟨g1, o1 + i * 3 + 1, none⟩) hg1).trans e1
      have f2 := (hBr.cell (p := ⟨g1, o1 + i * 3 + 2, none⟩) hg1).trans e2
      have hxe := isEmpty_eq x
      have HBr := Lib.hid hBr
      have Hx := Lib.hid hx
      clear e0 e1 e2 hBr hx
      by_cases hx0 : x.size = 0
      · rw [decide_eq_true hx0] at hxe
        have HB2 := Lib.hid (HBr.out.trans (((Below.refl wr.heap.size wr).alloc (Nat.le_refl _) (.cells #[.int .i64 k, .string x, .int .i64 p] 31)).mono HBr.out.size))
        clear hx0
        go_wp2_with fail
        go_roundg (gk - 1)
        case measure => omega
        case rel => exact ⟨i + 1, by omega, by go_num, HB2.out⟩
      · rw [decide_eq_false hx0] at hxe
        have hxS := HSZ.out i k p x Hx.out hx0
        have h1s : (⟨#[32]⟩ : ByteArray).size = 1 := rfl
        obtain ⟨s1, hs1⟩ : ∃ s1, s1 = (⟨#[32]⟩ : ByteArray) ++ x := ⟨_, rfl⟩
        have hs1z : s1.size = 1 + x.size := by rw [hs1, ByteArray.size_append, h1s]
        obtain ⟨s2, hs2⟩ : ∃ s2, s2 = s1 ++ (⟨#[32]⟩ : ByteArray) := ⟨_, rfl⟩
        have hs2z : s2.size = 2 + x.size := by rw [hs2, ByteArray.size_append, h1s, hs1z]; omega
        have HAL2 := Lib.hid (HAL.out i k p x s2 Hx.out hx0 (by rw [hs2, hs1]))
        have hkB := HTb.out _ (List.mem_of_getElem? Hx.out)
        have HLX2 := Lib.hid (fun w1 (h1 : Below w.heap.size w w1) => lex_any s2 w1 (by omega) (tabs_below HT.out h1))
        rw [HAL2.out] at HLX2
        have heq := fun w1 => eq_tk (a := (k, x, 1)) (b := (k, x, 1)) ⟨hkB.1, by show x.size ≤ _; omega, by show 1 ≤ _; omega⟩ ⟨hkB.1, by show x.size ≤ _; omega, by show 1 ≤ _; omega⟩ w1
        rw [decide_eq_true rfl] at heq
        have htk : (tkV (k, x, 1)).toArray = #[.int .i64 k, .string x, .int .i64 1] := rfl
        rw [htk] at heq
        have hwa := (Below.refl wr.heap.size wr).alloc (Nat.le_refl _) (.cells #[.int .i64 k, .string x, .int .i64 p] 31)
        have hnew := heap_alloc_new wr (.cells #[.int .i64 k, .string x, .int .i64 p] 31)
        have Hnew := Lib.hid hnew
        have Hwa := Lib.hid (HBr.out.trans (hwa.mono HBr.out.size))
        have Hlt := Lib.hid (lt_of_block hnew)
        have hq1 : (⟨#[32]⟩ : ByteArray).size + x.size ≤ 1048576 := by omega
        have hq2 : s1.size + (⟨#[32]⟩ : ByteArray).size ≤ 1048576 := by omega
        have Hs1 := Lib.hid hs1
        have Hs2 := Lib.hid hs2
        clear hwa hnew hx0 htk hs1 hs2 hkB
        go_wp2_with fail
        try rw [← Hs1.out]
        try rw [← Hs2.out]
        refine (HLX2.out _ (HB.out.trans (Hwa.out.mono HB.out.size))).mono ?_
        rintro r w4 ⟨v2, rfl, hv2, hB4⟩
        have b0 : w4.cell? ⟨wr.heap.size, 0, none⟩ = some (.int .i64 k) := (hB4.cell (p := ⟨wr.heap.size, 0, none⟩) Hlt.out).trans (block_cell Hnew.out 0)
        have b1 : w4.cell? ⟨wr.heap.size, 1, none⟩ = some (.string x) := (hB4.cell (p := ⟨wr.heap.size, 1, none⟩) Hlt.out).trans (block_cell Hnew.out 1)
        have HBw := Lib.hid (Hwa.out.trans (hB4.mono Hwa.out.size))
        generalize s2.size = n2 at *
        have HV2 : Hid (LAt 3 tkV w4 v2 ((if endsB (k, x, 1) = true then [(k, x, 1), (6, ⟨#[]⟩, n2)] else [(k, x, 1)]) ++ [(0, ⟨#[]⟩, n2)])) := Lib.hid hv2
        clear hv2 hB4 hs1z hs2z hq1 hq2
        cases he : endsB (k, x, 1) with
        | true =>
          have hv2 := HV2.out
          rw [if_pos he] at hv2
          obtain ⟨p2, cap2, rfl, hp2⟩ := hv2.shape
          obtain ⟨g2, o2, rfl⟩ := hp2 (by simp)
          have d0 : w4.cell? ⟨g2, o2, none⟩ = some (.int .i64 k) := (hv2.cells (i := 0) rfl).2.1
          have d1 : w4.cell? ⟨g2, o2 + 1, none⟩ = some (.string x) := (hv2.cells (i := 0) rfl).2.2.1
          have d2 : w4.cell? ⟨g2, o2 + 2, none⟩ = some (.int .i64 1) := (hv2.cells (i := 0) rfl).2.2.2
          have d6 : w4.cell? ⟨g2, o2 + 6, none⟩ = some (.int .i64 0) := (hv2.cells (i := 2) rfl).2.1
          clear hv2 hp2 he f0 f1 f2
          go_wp2_with fail
          go_quiet (fail)
          go_wp2_with fail
          go_roundg (gk - 1)
          case measure => omega
          case rel => exact ⟨i + 1, by omega, by go_num, below_drewN HBw.out _⟩
        | false =>
          have hv2 := HV2.out
          rw [if_neg (by rw [he]; decide)] at hv2
          obtain ⟨p2, cap2, rfl, hp2⟩ := hv2.shape
          obtain ⟨g2, o2, rfl⟩ := hp2 (by simp)
          have d0 : w4.cell? ⟨g2, o2, none⟩ = some (.int .i64 k) := (hv2.cells (i := 0) rfl).2.1
          have d1 : w4.cell? ⟨g2, o2 + 1, none⟩ = some (.string x) := (hv2.cells (i := 0) rfl).2.2.1
          have d2 : w4.cell? ⟨g2, o2 + 2, none⟩ = some (.int .i64 1) := (hv2.cells (i := 0) rfl).2.2.2
          have d6 : w4.cell? ⟨g2, o2 + 3, none⟩ = some (.int .i64 0) := (hv2.cells (i := 1) rfl).2.1
          clear hv2 hp2 he f0 f1 f2
          go_wp2_with fail
          go_quiet (fail)
          go_wp2_with fail
          go_roundg (gk - 1)
          case measure => omega
          case rel => exact ⟨i + 1, by omega, by go_num, below_drewN HBw.out _⟩
    · have hnI : ¬ (i : Int) < (len : Int) := by omega
      go_wp2_with fail
      go_ret
      exact ⟨rfl, HB.out.trans (hBr.mono HB.out.size)⟩
end Go.Proofs.YtejogobhnbjpdaaDoor
