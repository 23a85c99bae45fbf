/- Walks: words; whether a list has one. -/
import Derived.Test.YtlgmnhjdnmjpgaaDoorAp
namespace Go.Proofs.YtlgmnhjdnmjpgaaDoor
set_option linter.unusedVariables false
open Go.ChangeShapes Go.WideShapes Go.ChangeAt Go.RowKit

def cnt : List ByteArray → Nat | [] => 0 | x :: r => x.size + 1 + cnt r
theorem cnt_append (a b : List ByteArray) : cnt (a ++ b) = cnt a + cnt b := by
  induction a with
  | nil => simp [cnt]
  | cons x r ih => simp [cnt, ih]; omega
theorem cuts_cnt (c : UInt8) (l : List UInt8) : ∀ cur, cnt ((cuts c cur l).map mkB) = cur.length + l.length + 1 := by
  induction l with
  | nil => intro cur; simp [cuts, cnt, mkB_size]
  | cons x r ih =>
    intro cur
    rw [cuts_cons]
    split
    · rw [List.map_cons, cnt, ih, mkB_size]; simp; omega
    · rw [ih]; simp; omega
theorem cutB_cnt (c : UInt8) (s : ByteArray) : cnt (cutB c s) = s.size + 1 := by
  unfold cutB; rw [cuts_cnt, ba_len]; simp
theorem cnt_len (L : List ByteArray) : L.length ≤ cnt L := by
  induction L with
  | nil => simp
  | cons x r ih => simp [cnt]; omega
theorem cnt_take (L : List ByteArray) (k : Nat) (h : k < L.length) : cnt (L.take (k + 1)) = cnt (L.take k) + ((L.getD k ByteArray.empty).size + 1) := by
  rw [List.take_succ_eq_append_getElem h, cnt_append]
  simp [cnt, List.getD, h]
theorem cnt_take_le (L : List ByteArray) (k : Nat) : cnt (L.take k) ≤ cnt L := by
  conv => rhs; rw [← List.take_append_drop k L]
  rw [cnt_append]; omega

def some1 (y : ByteArray) : Bool := !(y.size == 0)
/-- What has bytes of what stands between tabs of texts. -/
def wl (L : List ByteArray) : List ByteArray := (L.flatMap (cutB 9)).filter some1
def wordsB (s : ByteArray) : List ByteArray := wl (cutB 32 s)
theorem wl_append (a b : List ByteArray) : wl (a ++ b) = wl a ++ wl b := by simp [wl, List.flatMap_append]
theorem wl_take (L : List ByteArray) (k : Nat) (h : k < L.length) : wl (L.take (k + 1)) = wl (L.take k) ++ (cutB 9 (L.getD k ByteArray.empty)).filter some1 := by
  rw [List.take_succ_eq_append_getElem h, wl_append]
  simp [wl, List.getD, h]
theorem wl_len (L : List ByteArray) : (wl L).length ≤ cnt L := by
  induction L with
  | nil => simp [wl]
  | cons x r ih =>
    have e : wl (x :: r) = (cutB 9 x).filter some1 ++ wl r := by simp [wl]
    have h1 := List.length_filter_le some1 (cutB 9 x)
    have h2 := cnt_len (cutB 9 x)
    rw [cutB_cnt] at h2
    rw [e, List.length_append]
    simp only [cnt]
    omega
theorem filter_take (L : List ByteArray) (k : Nat) (h : k < L.length) : (L.take (k + 1)).filter some1 = (L.take k).filter some1 ++ (if some1 (L.getD k ByteArray.empty) then [L.getD k ByteArray.empty] else []) := by
  rw [List.take_succ_eq_append_getElem h, List.filter_append]
  congr 1
  have e : L.getD k ByteArray.empty = L[k] := by simp [List.getD, h]
  rw [e]
  by_cases hx : some1 L[k] = true
  · rw [if_pos hx]; simp [hx]
  · rw [if_neg hx]; simp [hx]

theorem strs_shape {w : World} {v : Value} {ss : List ByteArray} (h : Strs w v ss) : ∃ p cap, v = .slice p ss.length cap ∧ (0 < ss.length → ∃ b off, p = some ⟨b, off, none⟩ ∧ b < w.heap.size ∧ ss.length ≤ cap ∧ cap ≤ maxLen ∧ ∀ i, i < ss.length → w.cell? ⟨b, off + i, none⟩ = some (.string (ss.getD i ByteArray.empty))) := by
  rcases h with ⟨⟨p, cap, rfl⟩, rfl⟩ | ⟨b, off, cap, hv, hl, hm, hb, hcell⟩
  · exact ⟨p, cap, rfl, fun h => by simp at h⟩
  · exact ⟨_, cap, hv, fun _ => ⟨b, off, rfl, hb, hl, hm, hcell⟩⟩
theorem cutB_each (c : UInt8) (s : ByteArray) (k : Nat) (h : k < (cutB c s).length) : ((cutB c s).getD k ByteArray.empty).size ≤ s.size := by
  have h1 := cnt_take (cutB c s) k h
  have h2 := cnt_take_le (cutB c s) (k + 1)
  rw [cutB_cnt] at h2
  omega
theorem toList_empty (y : ByteArray) (h : some1 y = true) : (y.toList == (⟨#[]⟩ : ByteArray).toList) = false := by
  rw [Lib.toList_data, Lib.toList_data, beq_eq_false_iff_ne]
  intro e
  have hl := congrArg List.length e
  rw [ba_len] at hl
  have h0 : y.size = 0 := hl
  simp only [some1, h0] at h
  exact absurd h (by decide)
theorem toList_some (y : ByteArray) (h : some1 y = true) : (!y.toList.isEmpty) = true := by
  have hne := toList_empty y h
  rw [Lib.toList_data] at hne ⊢
  cases hl : y.data.toList with
  | nil =>
    have e : (⟨#[]⟩ : ByteArray).toList = [] := by rw [Lib.toList_data]
    rw [hl, e] at hne
    exact absurd hne (by decide)
  | cons a r => rfl
theorem empty_of (y : ByteArray) (h : some1 y = false) : y = ⟨#[]⟩ := by
  have h0 : y.size = 0 := by
    by_cases h0 : y.size = 0
    · exact h0
    · simp only [some1] at h
      rw [beq_false_of_ne h0] at h
      cases h
  exact ba_ext (List.eq_nil_of_length_eq_zero (by rw [ba_len]; exact h0))

theorem cutB_ne (c : UInt8) (s : ByteArray) : 0 < (cutB c s).length := by
  unfold cutB
  rw [List.length_map]
  exact List.length_pos_iff.2 (cuts_ne c _ _)

theorem row_cells {w : World} {base : Nat} {v : Value} {ss : List ByteArray} (h : w.ownsRow base 9 1 v ss.length (ss.map Value.string)) (h0 : 0 < ss.length) :
    ∃ g cap, v = .slice (some ⟨g, 0, none⟩) ss.length cap ∧ base ≤ g ∧ g < w.heap.size ∧ ss.length ≤ cap ∧ cap ≤ 9223372036854775807 ∧ ∀ i, i < ss.length → w.cell? ⟨g, i, none⟩ = some (.string (ss.getD i ByteArray.empty)) := by
  rcases h.2 with ⟨hv, hn⟩ | ⟨g, cap, cur, hv, hb, hg, hcap, hmax, hsz, htake⟩
  · omega
  · unfold maxLen at hmax
    refine ⟨g, cap, hv, hb, lt_of_block hg, hcap, by omega, fun i hi => ?_⟩
    rw [block_cell hg]
    have e : (cur.toList.take (ss.length * 1))[i]? = (ss.map Value.string)[i]? := by rw [htake]
    rw [List.getElem?_take_of_lt (by omega), List.getElem?_map, List.getElem?_eq_getElem hi] at e
    simpa [List.getD, hi] using e

set_option maxHeartbeats 1000000 in
theorem words_any (s : ByteArray) (w : World) (hs : s.size ≤ 1073741824) :
    Calls Tryd.prog 26 #[.string s] w fun e w' => ∃ v, e = .returned v ∧ Strs w' v (wordsB s) ∧ Below w.heap.size w w' := by
  go_enter Tryd.func26, Tryd.ntmps26
  go_wp2_with fail
  refine (cut_any s 32 w hs).mono ?_
  rintro e w1 ⟨v1, rfl, hv1, hB1⟩
  obtain ⟨g1, cap1, rfl, hg1, hg1s, hcap1, hmax1, hcell1⟩ := row_cells hv1 (cutB_ne _ _)
  have hcn := cutB_cnt 32 s
  have hce := fun k hk => cutB_each 32 s k hk
  have hcl := cnt_len (cutB 32 s)
  rw [hcn] at hcl
  have Hwd := Lib.hid (show wordsB s = wl (cutB 32 s) from rfl)
  generalize cutB 32 s = ss at *
  have Hcn := Lib.hid hcn
  have Hce := Lib.hid hce
  obtain ⟨len, hlen⟩ : ∃ len, len = ss.length := ⟨_, rfl⟩
  rw [← hlen] at hcl Hce hcap1 hcell1 ⊢
  have Hcell1 := Lib.hid hcell1
  have Hlen := Lib.hid hlen
  have hB1s := hB1.size
  clear hlen hv1 hcn hce hcell1
  go_wp2_with fail
  go_loopg [3, 5, 7, 11, 18] len (fun g ov _ _ iv _ wr => ∃ k, k + g = len ∧ iv = .int .i64 (k : Nat) ∧ wr.ownsRow w1.heap.size 9 1 ov (wl (ss.take k)).length ((wl (ss.take k)).map Value.string) ∧ Below w1.heap.size w1 wr)
  case atStart => exact ⟨0, by omega, rfl, by simpa [wl] using World.ownsRow_nil w1 w1.heap.size 9 1, Below.refl _ _⟩
  case round =>
    obtain ⟨k, hkg, rfl, hown, hB⟩ := hrel
    have hBs := hB.size
    by_cases hlt : k < len
    · have hc : wr.cell? ⟨g1, k, none⟩ = some (.string (ss.getD k ByteArray.empty)) := by rw [hB.cell (p := ⟨g1, k, none⟩) hg1s]; exact Hcell1.out k hlt
      have hsz := Hce.out k hlt
      have hwt := wl_take ss k (by have := Hlen.out; omega)
      have hct := cnt_take ss k (by have := Hlen.out; omega)
      have hcle := cnt_take_le ss (k + 1)
      rw [Hcn.out] at hcle
      have hwl := wl_len (ss.take k)
      obtain ⟨x, hx⟩ : ∃ x, x = ss.getD k ByteArray.empty := ⟨_, rfl⟩
      rw [← hx] at hc hsz hwt hct
      have hwx : (wl (ss.take k)).length + (x.size + 1) ≤ 1073741825 := by omega
      have Hwt := Lib.hid hwt
      clear hx hwt hct hcle hwl
      generalize wl (ss.take k) = ac at *
      go_wp2_with fail
      refine (cut_any x 9 wr (by omega)).mono ?_
      rintro e w2 ⟨v2, rfl, hv2, hB2⟩
      obtain ⟨g2, cap2, rfl, hg2, hg2s, hcap2, hmax2, hcell2⟩ := row_cells hv2 (cutB_ne _ _)
      have hB02 := hB.trans (hB2.mono hBs)
      have hown2 := ownsRow_below hown hB2
      have hB2s := hB2.size
      have hlow := fun (q : Nat) hq => (hown.lt q hq).2
      have hcl2 := cnt_len (cutB 9 x)
      rw [cutB_cnt] at hcl2
      generalize cutB 9 x = ts at *
      obtain ⟨l2, hl2⟩ : ∃ l2, l2 = ts.length := ⟨_, rfl⟩
      rw [← hl2] at hcl2 hcap2 hcell2 ⊢
      have Hcell2 := Lib.hid hcell2
      have Hl2 := Lib.hid hl2
      have Hlow := Lib.hid hlow
      obtain ⟨wo, rfl⟩ : ∃ wo : World, wo = wr := ⟨_, rfl⟩
      obtain ⟨gko, rfl⟩ : ∃ gko : Nat, gko = gk := ⟨_, rfl⟩
      clear hl2 hv2 hown hB hB2 hc hcell2 hlow
      go_wp2_with fail
      go_loopg [3, 7, 18] l2 (fun g ov _ iv wr => ∃ j, j + g = l2 ∧ iv = .int .i64 (j : Nat) ∧ wr.ownsRow w1.heap.size 9 1 ov (ac ++ (ts.take j).filter some1).length ((ac ++ (ts.take j).filter some1).map Value.string) ∧ (∀ q, ov.ownBlock = some q → q < wo.heap.size ∨ w2.heap.size ≤ q) ∧ (∀ i, i < l2 → wr.cell? ⟨g2, i, none⟩ = some (.string (ts.getD i ByteArray.empty))) ∧ w2.heap.size ≤ wr.heap.size ∧ Below w1.heap.size w1 wr)
      case atStart => exact ⟨0, by omega, rfl, by simpa using hown2, fun q hq => .inl (Hlow.out q hq), Hcell2.out, Nat.le_refl _, hB02⟩
      case round =>
        obtain ⟨j, hjg, rfl, hown3, hlow3, hcell3, h23, hB3⟩ := hrel
        have hB3s := hB3.size
        have Hlow3 := Lib.hid hlow3
        have Hcell3 := Lib.hid hcell3
        clear hown2 hB02 hlow3 hcell3
        by_cases hjl : j < l2
        · have hc2 := Hcell3.out j hjl
          have hft := filter_take ts j (by have := Hl2.out; omega)
          have hfl : ((ts.take j).filter some1).length ≤ j := by
            have h1 := List.length_filter_le some1 (ts.take j)
            rw [List.length_take] at h1; omega
          have hal : (ac ++ (ts.take j).filter some1).length ≤ 1073741825 := by rw [List.length_append]; omega
          obtain ⟨y, hy⟩ : ∃ y, y = ts.getD j ByteArray.empty := ⟨_, rfl⟩
          rw [← hy] at hc2 hft
          clear hy hfl
          have hft2 : ac ++ (ts.take (j + 1)).filter some1 = (ac ++ (ts.take j).filter some1) ++ (if some1 y then [y] else []) := by rw [hft, List.append_assoc]
          clear hft
          generalize ac ++ (ts.take j).filter some1 = bc at *
          cases hsy : some1 y with
          | true =>
            have hne : (!y.toList.isEmpty) = true := toList_some y hsy
            rw [if_pos hsy] at hft2
            have Hft := Lib.hid hft2
            clear hft2 hsy
            go_wp2_with (at_builtin; go_must (refine wpList_append_text rfl (.tmp 24) (.tmp 26) rfl w1.heap.size _ bc rfl (hown3.alloc _) ⟨wr.heap.size, 0, none⟩ 1 y rfl (one_new _ _ _) (by omega) (by simp; omega) ?_); intro v4 w4 hown4 hgrow4 hwh4)
            go_roundg (gk - 1)
            case measure => omega
            case rel =>
              have hge := hgrow4.size
              simp at hge
              refine ⟨j + 1, by omega, by go_num, by rw [Hft.out]; exact hown4, ?_, ?_, by omega, (hB3.alloc hB3s _).grown hgrow4 (by simp; omega) (fun k hk => (hown3.lt k hk).1)⟩
              · intro q hq
                rcases hwh4 with h | h
                · exact Hlow3.out q (h.symm.trans hq)
                · rw [h] at hq; cases hq; right; simp; omega
              · intro i hi
                refine hgrow4.cell ?_ ?_
                · rw [World.cell?_alloc_old _ _ _ (by show g2 ≠ wr.heap.size; omega)]
                  exact Hcell3.out i hi
                · intro e
                  rcases Hlow3.out g2 e.symm with h | h <;> omega
          | false =>
            obtain rfl := empty_of y hsy
            have hft3 : ac ++ (ts.take (j + 1)).filter some1 = bc := by rw [hft2, if_neg (by decide), List.append_nil]
            have Hft := Lib.hid hft3
            clear hft2 hft3 hsy
            go_wp2_with fail
            go_roundg (gk - 1)
            case measure => omega
            case rel => exact ⟨j + 1, by omega, by go_num, by rw [Hft.out]; exact hown3, Hlow3.out, Hcell3.out, h23, hB3⟩
        · have hjl2 : ts.take j = ts := by rw [List.take_of_length_le]; have := Hl2.out; omega
          rw [hjl2] at hown3
          have Hown := Lib.hid hown3
          clear hjl2 hown3
          go_wp2_with fail
          go_roundg (gko - 1)
          case measure => omega
          case rel => exact ⟨k + 1, by omega, by go_num, by rw [Hwt.out]; exact Hown.out, hB3⟩
    · have hkl : ss.take k = ss := by rw [List.take_of_length_le]; have := Hlen.out; omega
      rw [hkl, ← Hwd.out] at hown
      clear hkl
      go_wp2_with fail
      go_ret
      exact ⟨_, rfl, Strs.ofRow hown, hB1.trans (hB.mono hB1s)⟩
end Go.Proofs.YtlgmnhjdnmjpgaaDoor
