/- Records of entries; the eldest; a key's value; all keys. -/
import Derived.Test.YtbdlmdmbaajcmaaZd
import Derived.Laws.MakeOwn
import Derived.WalkLawsBesides
namespace Go.Proofs.Ytbdlmdmbaajcmaa
set_option linter.unusedVariables false
set_option linter.unusedSimpArgs false
open Go.ChangeShapes Go.WideShapes Go.ChangeAt Go.RowKit

def putB (e : En) : ByteArray := C.joinB [wPut, e.1, e.2]
def goneB (k : ByteArray) : ByteArray := C.joinB [wGone, k]
theorem joinB_size (ss : List ByteArray) : (C.joinB ss).size = 8 + 8 * ss.length + C.total ss := by
  show (C.joinL ss).toArray.size = _
  rw [List.size_toArray]
  unfold C.joinL
  rw [List.length_append, C.numB_len, C.partsL_len]
  omega
theorem putB_size (e : En) : (putB e).size = 35 + e.1.size + e.2.size := by
  unfold putB
  rw [joinB_size]
  simp only [C.total, List.length_cons, List.length_nil]
  have : wPut.size = 3 := rfl
  omega
theorem goneB_size (k : ByteArray) : (goneB k).size = 28 + k.size := by
  unfold goneB
  rw [joinB_size]
  simp only [C.total, List.length_cons, List.length_nil]
  have : wGone.size = 4 := rfl
  omega
theorem strs3 (w : World) (a b c : ByteArray) (t : TypeId) : Strs (w.alloc (.cells #[.string a, .string b, .string c] t)) (.slice (some ⟨w.heap.size, 0, none⟩) 3 3) [a, b, c] := by
  refine .inr ⟨w.heap.size, 0, 3, rfl, Nat.le_refl _, by decide, by simp, fun i hi => ?_⟩
  have h := block_cell (heap_alloc_new w (.cells #[.string a, .string b, .string c] t)) i
  rw [Nat.zero_add, h]
  match i, hi with
  | 0, _ => rfl
  | 1, _ => rfl
  | 2, _ => rfl
theorem strs2 (w : World) (a b : ByteArray) (t : TypeId) : Strs (w.alloc (.cells #[.string a, .string b] t)) (.slice (some ⟨w.heap.size, 0, none⟩) 2 2) [a, b] := by
  refine .inr ⟨w.heap.size, 0, 2, rfl, Nat.le_refl _, by decide, by simp, fun i hi => ?_⟩
  have h := block_cell (heap_alloc_new w (.cells #[.string a, .string b] t)) i
  rw [Nat.zero_add, h]
  match i, hi with
  | 0, _ => rfl
  | 1, _ => rfl
theorem LF_strs : ∀ (l : List ByteArray), LF (fun s : ByteArray => [Value.string s]) l = l.map Value.string
  | [] => rfl
  | a :: l => by
    show [Value.string a] ++ LF _ l = _
    rw [LF_strs l]
    rfl
set_option maxRecDepth 100000 in
set_option maxHeartbeats 1000000 in
/-- The record of an entry that is put. -/
theorem putRecord_any (k v : ByteArray) (w : World) (hk : k.size ≤ 1073741824) (hv : v.size ≤ 1073741824) :
    Calls Try.prog 42 #[.agg #[.string k, .string v]] w fun e w' => e = .returned (.string (putB (k, v))) ∧ Below w.heap.size w w' := by
  obtain ⟨r, hr⟩ : ∃ r, r = putB (k, v) := ⟨_, rfl⟩
  rw [← hr]
  have Hr := Lib.hid hr
  clear hr
  have hnew := heap_alloc_new w (.cells #[.string k, .string v] 92)
  have hB1 := (Below.refl w.heap.size w).alloc (Nat.le_refl _) (.cells #[.string k, .string v] 92)
  have c0 := block_cell hnew 0
  have c1 := block_cell hnew 1
  have HB1 := Lib.hid hB1
  clear hnew hB1
  go_enter Try.func42, Try.ntmps42
  go_upto_region 1 with fail
  generalize w.alloc (.cells #[.string k, .string v] 92) = w1 at *
  have HJ := Lib.hid (C.join_any _ [wPut, k, v] _ (strs3 w1 wPut k v 9) (by simp only [C.total]; have : wPut.size = 3 := rfl; omega) (by simp))
  have HB2 := Lib.hid ((HB1.out).trans (((Below.refl w1.heap.size w1).alloc (Nat.le_refl _) (.cells #[.string wPut, .string k, .string v] 9)).mono HB1.out.size))
  rw [show C.joinB [wPut, k, v] = r from Hr.out.symm] at HJ
  go_wp2_with fail
  refine HJ.out.mono ?_
  rintro e w2 ⟨rfl, hB⟩
  have HB3 := Lib.hid (HB2.out.trans (hB.mono HB2.out.size))
  clear hB
  go_wp2_with fail
  go_ret
  exact ⟨rfl, HB3.out⟩
/-- A key's value. -/
def getL (L : List En) (k : ByteArray) : ByteArray × Bool := match whereL L k with
  | some i => ((L.getD i (⟨#[]⟩, ⟨#[]⟩)).2, true)
  | none => (⟨#[]⟩, false)
set_option maxRecDepth 100000 in
set_option maxHeartbeats 1000000 in
theorem get_any {T : Nat → Prop} {b d : Nat} {nm : ByteArray} {m : Int} {L : List En} {w : World} (st : St T b d nm m L w) (hl : L.length ≤ 16777216) (k : ByteArray) :
    Calls Try.prog 17 #[.pointer (some ⟨b, 0, none⟩), .string k] w fun e w' => e = .returned (.tuple #[.string (getL L k).1, .bool (getL L k).2]) ∧ Below w.heap.size w w' := by
  have HW := Lib.hid (where_any st hl k)
  have HS := Lib.hid st
  unfold getL
  cases hw : whereL L k with
  | none =>
    rw [hw] at HW
    clear st hw
    dsimp only
    go_enter Try.func17, Try.ntmps17
    go_wp2_with fail
    refine HW.out.mono ?_
    rintro e w1 ⟨rfl, hB⟩
    have HB := Lib.hid hB
    clear hB HW
    unfold idxV
    go_wp2_with fail
    go_ret2
    exact ⟨rfl, HB.out⟩
  | some i =>
    rw [hw] at HW
    obtain ⟨hi, _⟩ := whereL_lt hw
    clear st hw
    dsimp only
    have hi0 : ¬ (i : Int) < 0 := by omega
    have hiI : (i : Int) < (L.length : Int) := by omega
    obtain ⟨x1, x2, hx⟩ : ∃ x1 x2, L[i] = (x1, x2) := ⟨_, _, rfl⟩
    rw [show (L.getD i (⟨#[]⟩, ⟨#[]⟩)).2 = x2 from by rw [List.getD_eq_getElem?_getD, List.getElem?_eq_getElem hi, hx]; rfl]
    have hxi : L[i]? = some (x1, x2) := by rw [List.getElem?_eq_getElem hi, hx]
    have HX := Lib.hid hxi
    clear hx hxi
    go_enter Try.func17, Try.ntmps17
    go_wp2_with fail
    refine HW.out.mono ?_
    rintro e w1 ⟨rfl, hB⟩
    have HB := Lib.hid hB
    obtain ⟨lv, h1, h2, h3⟩ := (HS.out.below hB).f
    have hlat := LAt.own (fun x _ => enV_len x) h2
    obtain ⟨p, c, rfl, hp⟩ := gen_shape hlat
    obtain ⟨g, off, rfl⟩ := hp (by omega)
    obtain ⟨hg, hc0, hc1⟩ := hlat.cellsN HX.out
    have c3 := block_cell h1 3
    rw [show (stA d nm m (.slice (some ⟨g, off, none⟩) L.length c))[3]? = some (.slice (some ⟨g, off, none⟩) L.length c) from rfl] at c3
    clear hB HW HS h1 h2 h3 hlat hp
    unfold idxV
    go_wp2_with fail
    go_ret2
    exact ⟨rfl, HB.out⟩
/-- A row of its own, of the records of entries that go. -/
def EldEnd (G : List En) (w : World) (e : Ending) (w' : World) : Prop := ∃ v, e = .returned v ∧ w'.ownsRow w.heap.size 9 1 v (G.map (fun e => goneB e.1)).length ((G.map (fun e => goneB e.1)).map Value.string) ∧ Below w.heap.size w w'
theorem EldEnd.of {G : List En} {w w' : World} {v : Value} {j : Nat} (h : w'.ownsRow w.heap.size 9 1 v j ((G.map (fun e => goneB e.1)).map Value.string)) (hj : G.length = j) (hB : Below w.heap.size w w') : EldEnd G w (.returned v) w' :=
  ⟨v, rfl, by rw [List.length_map, hj]; exact h, hB⟩
set_option maxRecDepth 100000 in
set_option maxHeartbeats 2000000 in
/-- The records of the eldest entries, which go. -/
theorem eldest_any {T : Nat → Prop} {b d : Nat} {nm : ByteArray} {m : Int} {L : List En} {w : World} (st : St T b d nm m L w) (hl : L.length ≤ 8388608) (hk : ∀ e ∈ L, e.1.size ≤ 1073741824) (n : Int) :
    Calls Try.prog 43 #[.pointer (some ⟨b, 0, none⟩), .int .i64 n] w (EldEnd (L.take n.toNat) w) := by
  obtain ⟨lv, h1, h2, h3⟩ := st.f
  have hlat := LAt.own (fun x _ => enV_len x) h2
  obtain ⟨p, c, rfl, hp⟩ := gen_shape hlat
  have HL := Lib.hid hlat
  have Hb := Lib.hid h1
  have HK := Lib.hid hk
  have c3 := block_cell h1 3
  rw [show (stA d nm m (.slice p L.length c))[3]? = some (.slice p L.length c) from rfl] at c3
  clear h2 h3 hlat st hk h1
  by_cases hn : n < 0
  · have hmn : min n (L.length : Int) = n := by omega
    have hn0 : ¬ (0 : Int) < n := by omega
    have hz : n.toNat = 0 := by omega
    rw [hz, List.take_zero]
    clear hz
    go_enter Try.func43, Try.ntmps43
    go_wp2_with fail
    refine wp_loop_rounds 1 ?_
    rw [rounds_succ]
    go_wp2_with fail
    go_ret
    exact ⟨_, rfl, ⟨rfl, .inl ⟨rfl, rfl⟩⟩, Below.refl _ _⟩
  obtain ⟨n0, rfl⟩ : ∃ n0 : Nat, n = (n0 : Int) := ⟨n.toNat, by omega⟩
  rw [Int.toNat_natCast]
  obtain ⟨q, hq⟩ : ∃ q, q = min n0 L.length := ⟨_, rfl⟩
  have hmn : min (n0 : Int) (L.length : Int) = (q : Int) := by omega
  have hql : q ≤ L.length := by omega
  have HT := Lib.hid (show L.take n0 = L.take q by rw [hq, List.take_eq_take_iff]; omega)
  rw [HT.out]
  clear hq HT hn
  go_enter Try.func43, Try.ntmps43
  go_wp2_with fail
  go_loopg [5, 6, 14] q (fun g v _ iv wr => ∃ j : Nat, j + g = q ∧ iv = .int .i64 j ∧ Hid (wr.ownsRow w.heap.size 9 1 v j (((L.take j).map (fun e => goneB e.1)).map Value.string)) ∧ Hid (Below w.heap.size w wr))
  case atStart => exact ⟨0, by omega, rfl, Lib.hid ⟨by simp, .inl ⟨rfl, rfl⟩⟩, Lib.hid (Below.refl _ _)⟩
  case round =>
    obtain ⟨j, hjg, rfl, HO, HB⟩ := hrel
    by_cases hj : j < q
    · have hjI : (j : Int) < (q : Int) := by omega
      have hjl : j < L.length := by omega
      have hjlI : (j : Int) < (L.length : Int) := by omega
      obtain ⟨g0, off, rfl⟩ := hp (by omega)
      obtain ⟨x1, x2, hx⟩ : ∃ x1 x2, L[j] = (x1, x2) := ⟨_, _, rfl⟩
      have hxi : L[j]? = some (x1, x2) := by rw [List.getElem?_eq_getElem hjl, hx]
      obtain ⟨hg, hc0, hc1⟩ := HL.out.cellsN hxi
      have hxs : x1.size ≤ 1073741824 := HK.out (x1, x2) (List.mem_of_getElem? hxi)
      have d0 := (HB.out.cell (p := ⟨g0, off + j * 2, none⟩) hg).trans hc0
      have d3 := (HB.out.cell (p := ⟨b, 3, none⟩) (lt_of_block Hb.out)).trans c3
      have HX := Lib.hid hxi
      have HJ := Lib.hid (C.join_any _ [wGone, x1] _ (strs2 wr wGone x1 9) (by simp only [C.total]; have : wGone.size = 4 := rfl; omega) (by simp))
      have HB2 := Lib.hid (HB.out.trans (((Below.refl wr.heap.size wr).alloc (Nat.le_refl _) (.cells #[.string wGone, .string x1] 9)).mono HB.out.size))
      have HO2 := Lib.hid (gen_own_below HO.out ((Below.refl wr.heap.size wr).alloc (Nat.le_refl _) (.cells #[.string wGone, .string x1] 9)))
      rw [show C.joinB [wGone, x1] = goneB x1 from rfl] at HJ
      have HG := Lib.hid (show (L.take (j + 1)).map (fun e => goneB e.1) = (L.take j).map (fun e => goneB e.1) ++ [goneB x1] from by
        rw [List.take_add_one, HX.out, List.map_append]; rfl)
      clear hx hxi hc0 hc1
      generalize goneB x1 = r at *
      go_wp2_with fail
      refine HJ.out.mono ?_
      rintro e w2 ⟨rfl, hB⟩
      have HB3 := Lib.hid (HB2.out.trans (hB.mono HB2.out.size))
      have HO3 := Lib.hid (gen_own_below HO2.out hB)
      have hsz3 := HB3.out.size
      clear hB HJ HO2 HB2 HO d0 d3
      generalize hG0 : (L.take j).map (fun e => goneB e.1) = G0 at *
      have hG0l : G0.length = j := by rw [← hG0, List.length_map, List.length_take]; omega
      have ho3 := HO3.out
      rw [← LF_strs, ← hG0l] at ho3
      have Ho3 := Lib.hid ho3
      have hjb : G0.length + 1 ≤ 8388609 := by omega
      clear ho3 hG0
      have Hjl := Lib.hid hG0l
      clear hG0l
      go_wp2_with (at_builtin; go_must (refine wpList_append_gen eltS rfl (.tmp 17) (.tmp 28) rfl rfl w.heap.size _ G0 rfl (gen_own_below Ho3.out ((Below.refl w2.heap.size w2).alloc (Nat.le_refl _) (.cells #[.string r] 9))) _ [r] (LAt.block rfl rfl (heap_alloc_new w2 (.cells #[.string r] 9))) rfl (by simp only [List.length_cons, List.length_nil]; omega) (by unfold maxLen; simp only [List.length_cons, List.length_nil]; omega) (by simp; omega) ?_); intro v4 w4 hown4 hgrow4)
      have HB4 := Lib.hid ((HB3.out.trans (((Below.refl w2.heap.size w2).alloc (Nat.le_refl _) (.cells #[.string r] 9)).mono HB3.out.size)).grown hgrow4 (by simp; omega) (fun k hk => (Ho3.out.lt k hk).1))
      go_roundg (gk - 1)
      case measure => omega
      case rel =>
        refine ⟨j + 1, by omega, by go_num, Lib.hid ?_, HB4⟩
        rw [HG.out, ← LF_strs]
        have := hown4
        rwa [List.length_append, Hjl.out] at this
    · obtain rfl : j = q := by omega
      have hjI : ¬ (j : Int) < (j : Int) := by omega
      go_wp2_with fail
      go_ret
      exact EldEnd.of HO.out (by rw [List.length_take]; omega) HB.out
end Go.Proofs.Ytbdlmdmbaajcmaa
