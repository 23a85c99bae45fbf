/- Walks: bad, Split of both, whether a list has a bad part, Good of both; Walks: whether a list has a bad part; Good of both; Plain: a path's last part; what stands under a directory; texts joined; Plain: the order of texts and of lists of texts; Walks: Compare of both; Walks: Under of both. -/
import Derived.Test.YtdhaanaenklleaaGreatDoorQ1
import Derived.Test.YtdhaanaenklleaaGreatDoorSh
import Derived.Lib.LastIndexByte
import Derived.Lib.Join
namespace Go.Proofs.YtdhaanaenklleaaGreatDoor
set_option linter.unusedVariables false
open Go.ChangeShapes Go.WideShapes Go.ChangeAt Go.RowKit

def zeroB (s : ByteArray) : Bool := decide (0 ≤ Lib.indexByte s.data.toList 0)
theorem zero_iff (s : ByteArray) : zeroB s = true ↔ (0 : UInt8) ∈ s.data.toList := by
  unfold zeroB
  rw [decide_eq_true_iff]
  constructor
  · intro h
    obtain ⟨o, ho⟩ : ∃ o : Nat, Lib.indexByte s.data.toList 0 = o := ⟨_, (Int.toNat_of_nonneg h).symm⟩
    have := (Lib.indexByte_some ho).1
    exact List.mem_of_getElem? this
  · intro h
    have h1 := Lib.indexByte_ge s.data.toList 0
    by_cases e : Lib.indexByte s.data.toList 0 = -1
    · obtain ⟨k, hk, he⟩ := List.getElem_of_mem h
      exact absurd (by rw [List.getElem?_eq_getElem hk, he]) (Lib.indexByte_none e k)
    · omega
def badB (s : ByteArray) : Bool := !(dotB s) || zeroB s
theorem part_bad (x : ByteArray) (h : (47 : UInt8) ∉ x.data.toList) : partB x = !(badB x) := by
  have e : cleanB x = !(zeroB x) := by
    rw [Bool.eq_iff_iff, Bool.not_eq_true', Bool.eq_false_iff, ne_eq, zero_iff]
    unfold cleanB
    rw [List.all_eq_true]
    constructor
    · intro ha hm
      have := ha 0 hm
      simp at this
    · intro hn c hc
      have h1 : c ≠ 0 := fun e => hn (e ▸ hc)
      have h2 : c ≠ 47 := fun e => h (e ▸ hc)
      simp [h1, h2]
  unfold partB badB
  rw [e]
  cases zeroB x <;> cases dotB x <;> rfl

theorem contains_any (s : ByteArray) (w : World) : Calls Tryz.prog 113 #[.string s, .string ⟨#[0]⟩] w fun e w' => e = .returned (.bool (zeroB s)) ∧ w = w' := by
  refine (Tryz.strings_Contains_one s 0 w).mono ?_
  rintro e w' ⟨rfl, rfl⟩
  exact ⟨rfl, rfl⟩

set_option maxRecDepth 100000 in
set_option maxHeartbeats 400000 in
theorem bad_any (s : ByteArray) (w : World) : Calls Tryz.prog 88 #[.string s] w fun e w' => e = .returned (.bool (badB s)) ∧ w = w' := by
  cases hs1 : some1 s with
  | false =>
    have e := empty_of s hs1
    have Hd := Lib.hid (show badB s = true by unfold badB dotB; rw [hs1]; rfl)
    have h1 : (!s.toList.isEmpty) = false := by rw [e, Lib.toList_data]; rfl
    have h2 : (s.toList == ([] : List UInt8)) = true := by rw [e, Lib.toList_data]; rfl
    clear e hs1
    go_enter Tryz.func88, Tryz.ntmps88
    go_wp2_with fail
    go_ret
    exact ⟨by rw [Hd.out]; rfl, rfl⟩
  | true =>
    have n1 := toList_some s hs1
    have n2 : (s.toList == ([] : List UInt8)) = false := by
      have := toList_empty s hs1
      rw [Lib.toList_data ⟨#[]⟩] at this
      exact this
    cases hd1 : (s.toList == ([46] : List UInt8)) with
    | true =>
      have Hd := Lib.hid (show badB s = true by unfold badB dotB; rw [hs1, hd1]; rfl)
      clear hs1
      go_enter Tryz.func88, Tryz.ntmps88
      go_wp2_with fail
      go_ret
      exact ⟨by rw [Hd.out]; rfl, rfl⟩
    | false =>
      cases hd2 : (s.toList == ([46, 46] : List UInt8)) with
      | true =>
        have Hd := Lib.hid (show badB s = true by unfold badB dotB; rw [hs1, hd1, hd2]; rfl)
        clear hs1
        go_enter Tryz.func88, Tryz.ntmps88
        go_wp2_with fail
        go_ret
        exact ⟨by rw [Hd.out]; rfl, rfl⟩
      | false =>
        have Hd := Lib.hid (show badB s = zeroB s by unfold badB dotB; rw [hs1, hd1, hd2]; rfl)
        have HC := Lib.hid (fun w1 => contains_any s w1)
        clear hs1
        generalize zeroB s = z at *
        go_enter Tryz.func88, Tryz.ntmps88
        go_wp2_with fail
        refine (HC.out _).mono ?_
        rintro e w1 ⟨rfl, rfl⟩
        go_wp2_with fail
        go_ret
        exact ⟨by rw [Hd.out]; rfl, rfl⟩

def splitL (p : ByteArray) : List ByteArray := if some1 p then cutB 47 p else []
theorem row_of_alloc (L : List ByteArray) (w : World) (hm : L.length ≤ maxLen) : (w.alloc (.cells (L.map Value.string).toArray 9)).ownsRow w.heap.size 9 1 (.slice (some ⟨w.heap.size, 0, none⟩) L.length L.length) L.length (L.map Value.string) := by
  refine ⟨by simp, .inr ⟨w.heap.size, L.length, (L.map Value.string).toArray, rfl, Nat.le_refl _, ?_, Nat.le_refl _, hm, by simp, by rw [Nat.mul_one]; exact List.take_of_length_le (by simp)⟩⟩
  show (w.heap.push _)[w.heap.size]? = _
  simp
theorem split_own (s : ByteArray) (m : Int) (w : World) (hs : s.size ≤ 1073741824) (hm : w.cell? ⟨1, 0, none⟩ = some (.int .i64 m)) :
    Calls Tryz.prog 86 #[.string s, .string ⟨#[47]⟩] w fun e w' => ∃ v, e = .returned v ∧ w'.ownsRow w.heap.size 9 1 v (cutB 47 s).length ((cutB 47 s).map Value.string) ∧ Below w.heap.size w w' := by
  refine (Tryz.strings_Split s (mkB [47]) m w (by omega) hm (by decide)).mono ?_
  rintro e w' ⟨rfl, rfl⟩
  rw [splitB_cut, ← cutB_len]
  have hl := cnt_len (cutB 47 s)
  rw [cutB_cnt] at hl
  exact ⟨_, rfl, row_of_alloc _ _ (by unfold maxLen; omega), (Below.refl _ w).alloc (Nat.le_refl _) _⟩

theorem psplit_any (s : ByteArray) (m : Int) (w : World) (hs : s.size ≤ 1073741824) (hm : w.cell? ⟨1, 0, none⟩ = some (.int .i64 m)) :
    Calls Tryz.prog 59 #[.string s] w fun e w' => ∃ v, e = .returned v ∧ w'.ownsRow w.heap.size 9 1 v (splitL s).length ((splitL s).map Value.string) ∧ Below w.heap.size w w' := by
  unfold splitL
  have HS := Lib.hid (fun (w1 : World) (h : w1 = w) => h ▸ split_own s m w hs hm)
  cases hs1 : some1 s with
  | false =>
    have e := empty_of s hs1
    have h1 : (!s.toList.isEmpty) = false := by rw [e, Lib.toList_data]; rfl
    have h2 : (s.toList == ([] : List UInt8)) = true := by rw [e, Lib.toList_data]; rfl
    clear e hs1
    go_enter Tryz.func59, Tryz.ntmps59
    go_wp2_with fail
    go_ret
    exact ⟨_, rfl, World.ownsRow_nil _ _ _ _, Below.refl _ _⟩
  | true =>
    have n1 := toList_some s hs1
    have n2 : (s.toList == ([] : List UInt8)) = false := by
      have := toList_empty s hs1
      rw [Lib.toList_data ⟨#[]⟩] at this
      exact this
    clear hs1
    rw [if_pos rfl]
    go_enter Tryz.func59, Tryz.ntmps59
    go_wp2_with fail
    refine (HS.out _ rfl).mono ?_
    rintro e w1 ⟨v, rfl, hv, hB⟩
    go_wp2_with fail
    go_ret
    exact ⟨_, rfl, hv, hB⟩
end Go.Proofs.YtdhaanaenklleaaGreatDoor
namespace Go.Proofs.YtdhaanaenklleaaGreatDoor
set_option linter.unusedVariables false
open Go.ChangeShapes Go.WideShapes Go.ChangeAt Go.RowKit

set_option maxRecDepth 100000 in
set_option maxHeartbeats 400000 in
theorem index_any (v : Value) (ss : List ByteArray) (w : World) (hv : Strs w v ss) :
    Calls Tryz.prog 112 #[v, .func (.func 88) #[] #[]] w fun e w' => ∃ r : Int, e = .returned (.int .i64 r) ∧ decide (0 ≤ r) = ss.any badB ∧ w = w' := by
  obtain ⟨p, cap, rfl, hp⟩ := strs_shape hv
  have Hp := Lib.hid hp
  obtain ⟨len, hlen⟩ : ∃ len, len = ss.length := ⟨_, rfl⟩
  rw [← hlen] at Hp ⊢
  have Hlen := Lib.hid hlen
  clear hv hp hlen
  go_enter Tryz.func112, Tryz.ntmps112
  go_wp2_with fail
  go_loopg [5, 8] len (fun g _ iv wr => ∃ k : Nat, k + g = len ∧ iv = .int .i64 k ∧ (ss.take k).any badB = false ∧ w = wr)
  case atStart => exact ⟨0, by omega, rfl, rfl, rfl⟩
  case round =>
    obtain ⟨k, hkg, rfl, hno, rfl⟩ := hrel
    have Hno := Lib.hid hno
    clear hno
    by_cases hlt : k < len
    · obtain ⟨b, off, rfl, hb, hcap, hmax, hcell⟩ := Hp.out (by omega)
      have hc := hcell k hlt
      have hkl : k < ss.length := by have := Hlen.out; omega
      have hge : ss.getD k ByteArray.empty = ss[k] := by simp [List.getD, hkl]
      have hts := List.take_succ_eq_append_getElem hkl
      rw [← hge] at hts
      have hmem : ss.getD k ByteArray.empty ∈ ss := by rw [hge]; exact List.getElem_mem hkl
      unfold maxLen at hmax
      obtain ⟨y, hy⟩ : ∃ y, y = ss.getD k ByteArray.empty := ⟨_, rfl⟩
      rw [← hy] at hc hts hmem
      have Hts := Lib.hid hts
      have Hmem := Lib.hid hmem
      have HB := Lib.hid (fun w1 => bad_any y w1)
      clear hy hts hge hcell hmem
      cases hby : badB y with
      | true =>
        have hin : ss.any badB = true := List.any_eq_true.2 ⟨y, Hmem.out, hby⟩
        have Hin := Lib.hid hin
        rw [hby] at HB
        clear hin hby
        go_wp2_with fail
        refine (HB.out _).mono ?_
        rintro e w1 ⟨rfl, rfl⟩
        go_wp2_with fail
        go_ret
        exact ⟨_, rfl, by rw [Hin.out]; exact decide_eq_true (by omega), rfl⟩
      | false =>
        have hn : (ss.take (k + 1)).any badB = false := by
          rw [Hts.out, List.any_append, Hno.out]; simp [hby]
        have Hn := Lib.hid hn
        rw [hby] at HB
        clear hn hby
        go_wp2_with fail
        refine (HB.out _).mono ?_
        rintro e w1 ⟨rfl, rfl⟩
        go_wp2_with fail
        go_roundg (gk - 1)
        case measure => omega
        case rel => exact ⟨k + 1, by omega, by go_num, Hn.out, rfl⟩
    · have hin : ss.any badB = false := by
        have hno := Hno.out
        rw [List.take_of_length_le (by have := Hlen.out; omega)] at hno
        exact hno
      have Hin := Lib.hid hin
      clear hin
      go_wp2_with fail
      go_ret
      exact ⟨_, rfl, by rw [Hin.out]; rfl, rfl⟩
theorem containsf_any (v : Value) (ss : List ByteArray) (w : World) (hv : Strs w v ss) :
    Calls Tryz.prog 87 #[v, .func (.func 88) #[] #[]] w fun e w' => e = .returned (.bool (ss.any badB)) ∧ w = w' := by
  have H := Lib.hid (index_any v ss w hv)
  generalize ss.any badB = r at *
  go_enter Tryz.func87, Tryz.ntmps87
  go_wp2_with fail
  refine H.out.mono ?_
  rintro e w1 ⟨x, rfl, hx, rfl⟩
  go_wp2_with fail
  go_ret
  exact ⟨by rw [← hx]; rfl, rfl⟩

def goodB (p : ByteArray) : Bool := decide (p.size ≤ 128) && decide ((cutB 47 p).length ≤ 16) && (cutB 47 p).all partB
theorem cut_free (c : UInt8) (s : ByteArray) : ∀ x ∈ cutB c s, c ∉ x.data.toList := by
  intro x hx
  unfold cutB at hx
  obtain ⟨l, hl, rfl⟩ := List.mem_map.1 hx
  rw [mkB_toList]
  exact cuts_free c _ [] (by simp) l hl
theorem all_bad (s : ByteArray) : (cutB 47 s).all partB = !((cutB 47 s).any badB) := by
  have h : ∀ x ∈ cutB 47 s, partB x = !(badB x) := fun x hx => part_bad x (cut_free 47 s x hx)
  generalize cutB 47 s = L at *
  induction L with
  | nil => rfl
  | cons a r ih =>
    rw [List.all_cons, List.any_cons, h a (by simp), ih (fun x hx => h x (by simp [hx]))]
    cases badB a <;> rfl
theorem good_empty : goodB ⟨#[]⟩ = false := by decide +kernel

set_option maxRecDepth 100000 in
set_option maxHeartbeats 400000 in
theorem good_any (s : ByteArray) (m : Int) (w : World) (hs : s.size ≤ 1073741824) (hm : w.cell? ⟨1, 0, none⟩ = some (.int .i64 m)) :
    Calls Tryz.prog 60 #[.string s] w fun e w' => e = .returned (.bool (goodB s)) ∧ Below w.heap.size w w' := by
  cases hs1 : some1 s with
  | false =>
    have e := empty_of s hs1
    have Hd := Lib.hid (show goodB s = false by rw [e]; exact good_empty)
    have h1 : (!s.toList.isEmpty) = false := by rw [e, Lib.toList_data]; rfl
    have h2 : (s.toList == ([] : List UInt8)) = true := by rw [e, Lib.toList_data]; rfl
    clear e hs1
    go_enter Tryz.func60, Tryz.ntmps60
    go_wp2_with fail
    go_ret
    exact ⟨by rw [Hd.out]; rfl, Below.refl _ _⟩
  | true =>
    have n1 := toList_some s hs1
    have n2 : (s.toList == ([] : List UInt8)) = false := by
      have := toList_empty s hs1
      rw [Lib.toList_data ⟨#[]⟩] at this
      exact this
    have HS := Lib.hid (psplit_any s m w hs hm)
    have e : splitL s = cutB 47 s := by unfold splitL; rw [hs1]; rfl
    rw [e] at HS
    clear hs1 e
    by_cases hle : s.size ≤ 128
    · have hleI : (s.size : Int) ≤ 128 := by omega
      have Hg := Lib.hid (show goodB s = (decide ((cutB 47 s).length ≤ 16) && !((cutB 47 s).any badB)) by unfold goodB; rw [decide_eq_true hle, all_bad]; rfl)
      generalize cutB 47 s = L at *
      by_cases hn : L.length ≤ 16
      · have hnI : (L.length : Int) ≤ 16 := by omega
        have HC := Lib.hid (fun (v : Value) (w1 : World) (hv : Strs w1 v L) => containsf_any v L w1 hv)
        have Hg2 := Lib.hid (show goodB s = !(L.any badB) by rw [Hg.out, decide_eq_true hn]; rfl)
        generalize L.any badB = z at *
        clear hn
        go_enter Tryz.func60, Tryz.ntmps60
        go_wp2_with fail
        refine HS.out.mono ?_
        rintro e w1 ⟨v, rfl, hv, hB⟩
        have hst := Strs.ofRow hv
        obtain ⟨p, cap, rfl, _⟩ := strs_shape hst
        have Hst := Lib.hid hst
        clear hv hst
        generalize L.length = n at *
        go_wp2_with fail
        refine (HC.out _ _ Hst.out).mono ?_
        rintro e w2 ⟨rfl, rfl⟩
        go_wp2_with fail
        go_ret
        exact ⟨by rw [Hg2.out]; rfl, hB⟩
      · have hnI : ¬ (L.length : Int) ≤ 16 := by omega
        have Hg2 := Lib.hid (show goodB s = false by rw [Hg.out, decide_eq_false hn]; rfl)
        clear hn
        go_enter Tryz.func60, Tryz.ntmps60
        go_wp2_with fail
        refine HS.out.mono ?_
        rintro e w1 ⟨v, rfl, hv, hB⟩
        have hst := Strs.ofRow hv
        obtain ⟨p, cap, rfl, _⟩ := strs_shape hst
        clear hv hst
        go_wp2_with fail
        go_ret
        exact ⟨by rw [Hg2.out]; rfl, hB⟩
    · have hleI : ¬ (s.size : Int) ≤ 128 := by omega
      have Hg := Lib.hid (show goodB s = false by unfold goodB; rw [decide_eq_false hle]; rfl)
      go_enter Tryz.func60, Tryz.ntmps60
      go_wp2_with fail
      go_ret
      exact ⟨by rw [Hg.out]; rfl, Below.refl _ _⟩

set_option maxRecDepth 100000 in
set_option maxHeartbeats 400000 in
theorem refGood_any (s : ByteArray) (w : World) (hs : s.size ≤ 1073741824) :
    Calls Tryz.prog 31 #[.string s] w fun e w' => e = .returned (.bool (goodB s)) ∧ Below w.heap.size w w' := by
  have HS := Lib.hid (parts_own s w hs)
  have Hg := Lib.hid (show goodB s = (decide (s.size ≤ 128) && decide ((cutB 47 s).length ≤ 16) && (cutB 47 s).all partB) from rfl)
  have hce := fun k hk => cutB_each 47 s k hk
  have Hce := Lib.hid hce
  clear hce
  generalize cutB 47 s = L at *
  go_enter Tryz.func31, Tryz.ntmps31
  go_wp2_with fail
  refine HS.out.mono ?_
  rintro e w1 ⟨v, rfl, hv, hB⟩
  have hst := Strs.ofRow hv
  obtain ⟨p, cap, rfl, hp⟩ := strs_shape hst
  have Hp := Lib.hid hp
  obtain ⟨len, hlen⟩ : ∃ len, len = L.length := ⟨_, rfl⟩
  rw [← hlen] at Hp Hg ⊢
  have Hlen := Lib.hid hlen
  have hl30 : len ≤ 1073741825 ∨ True := .inr trivial
  clear hv hst hp hlen hl30
  go_wp2_with fail
  go_loopg [5, 10] len (fun g _ iv wr => ∃ k : Nat, k + g = len ∧ iv = .int .i64 k ∧ (L.take k).all partB = true ∧ w1 = wr)
  case atStart => exact ⟨0, by omega, rfl, rfl, rfl⟩
  case round =>
    obtain ⟨k, hkg, rfl, hno, rfl⟩ := hrel
    have Hno := Lib.hid hno
    clear hno
    by_cases hlt : k < len
    · obtain ⟨b, off, rfl, hb, hcap, hmax, hcell⟩ := Hp.out (by omega)
      have hc := hcell k hlt
      have hkl : k < L.length := by have := Hlen.out; omega
      have hge : L.getD k ByteArray.empty = L[k] := by simp [List.getD, hkl]
      have hts := List.take_succ_eq_append_getElem hkl
      rw [← hge] at hts
      have hmem : L.getD k ByteArray.empty ∈ L := by rw [hge]; exact List.getElem_mem hkl
      have hsz := Hce.out k hkl
      unfold maxLen at hmax
      obtain ⟨y, hy⟩ : ∃ y, y = L.getD k ByteArray.empty := ⟨_, rfl⟩
      rw [← hy] at hc hts hmem hsz
      have Hts := Lib.hid hts
      have Hmem := Lib.hid hmem
      have HP := Lib.hid (fun w1 => part_any y w1 (by omega))
      clear hy hts hge hcell hmem
      cases hby : partB y with
      | false =>
        have hin : L.all partB = false := List.all_eq_false.2 ⟨y, Hmem.out, by simp [hby]⟩
        have Hin := Lib.hid (show goodB s = false by rw [Hg.out, hin, Bool.and_false])
        rw [hby] at HP
        clear hin hby
        go_wp2_with fail
        refine (HP.out _).mono ?_
        rintro e w2 ⟨rfl, rfl⟩
        go_wp2_with fail
        go_ret
        exact ⟨by rw [Hin.out]; rfl, hB⟩
      | true =>
        have hn : (L.take (k + 1)).all partB = true := by
          rw [Hts.out, List.all_append, Hno.out]; simp [hby]
        have Hn := Lib.hid hn
        rw [hby] at HP
        clear hn hby
        go_wp2_with fail
        refine (HP.out _).mono ?_
        rintro e w2 ⟨rfl, rfl⟩
        go_wp2_with fail
        go_roundg (gk - 1)
        case measure => omega
        case rel => exact ⟨k + 1, by omega, by go_num, Hn.out, rfl⟩
    · have hin : L.all partB = true := by
        have hno := Hno.out
        rw [List.take_of_length_le (by have := Hlen.out; omega)] at hno
        exact hno
      have Hin := Lib.hid (show goodB s = (decide (s.size ≤ 128) && decide (len ≤ 16)) by rw [Hg.out, hin, Bool.and_true])
      clear hin
      by_cases h1 : s.size ≤ 128
      · have h1I : (s.size : Int) ≤ 128 := by omega
        by_cases h2 : len ≤ 16
        · have h2I : (len : Int) ≤ 16 := by omega
          have He := Lib.hid (show goodB s = true by rw [Hin.out, decide_eq_true h1, decide_eq_true h2]; rfl)
          go_wp2_with fail
          go_ret
          exact ⟨by rw [He.out]; rfl, hB⟩
        · have h2I : ¬ (len : Int) ≤ 16 := by omega
          have He := Lib.hid (show goodB s = false by rw [Hin.out, decide_eq_false h2]; simp)
          go_wp2_with fail
          go_ret
          exact ⟨by rw [He.out]; rfl, hB⟩
      · have h1I : ¬ (s.size : Int) ≤ 128 := by omega
        have He := Lib.hid (show goodB s = false by rw [Hin.out, decide_eq_false h1]; rfl)
        go_wp2_with fail
        go_ret
        exact ⟨by rw [He.out]; rfl, hB⟩
end Go.Proofs.YtdhaanaenklleaaGreatDoor
namespace Go.Proofs.YtdhaanaenklleaaGreatDoor
set_option linter.unusedVariables false

theorem app_size (a b : ByteArray) : (a ++ b).size = a.size + b.size := by
  rw [← ba_len, ba_append, List.length_append, ba_len, ba_len]
theorem cut_app (a b : ByteArray) (hb : (47 : UInt8) ∉ b.data.toList) : cutB 47 (a ++ ⟨#[47]⟩ ++ b) = cutB 47 a ++ [b] := by
  unfold cutB
  have e : (a ++ ⟨#[47]⟩ ++ b).data.toList = a.data.toList ++ (47 : UInt8) :: b.data.toList := by
    rw [ba_append, ba_append]; simp
  rw [e, cuts_append, cuts_none 47 b.data.toList [] hb]
  simp [mkB_data]
theorem cut_none (b : ByteArray) (hb : (47 : UInt8) ∉ b.data.toList) : cutB 47 b = [b] := by
  unfold cutB
  rw [cuts_none 47 _ [] hb]; simp [mkB_data]
theorem cut_two (a b : ByteArray) : cutB 47 (a ++ ⟨#[47]⟩ ++ b) = cutB 47 a ++ cutB 47 b := by
  unfold cutB
  have e : (a ++ ⟨#[47]⟩ ++ b).data.toList = a.data.toList ++ (47 : UInt8) :: b.data.toList := by
    rw [ba_append, ba_append]; simp
  rw [e, cuts_append, List.map_append]

def lastB (p : ByteArray) : Int := Lib.lastIndexByte p 47
theorem byte_at (s : ByteArray) (j : Nat) (h : j < s.size) : s.data[j]! = s[j] := by
  exact getElem!_pos s.data j h
theorem not_mem_of (s : ByteArray) (f : Nat) (h : ∀ j, f ≤ j → j < s.size → ((s.data[j]!).toNat : Int) ≠ 47) : (47 : UInt8) ∉ s.data.toList.drop f := by
  intro hm
  obtain ⟨k, hk, he⟩ := List.getElem_of_mem hm
  rw [List.length_drop, ba_len] at hk
  rw [List.getElem_drop] at he
  have h1 := h (f + k) (by omega) (by omega)
  rw [byte_at s (f + k) (by omega)] at h1
  apply h1
  have e : s[f + k]'(by omega) = 47 := he
  rw [e]; rfl
theorem last_cases (p : ByteArray) : (lastB p = -1 ∧ (47 : UInt8) ∉ p.data.toList) ∨ ∃ a b, p = a ++ ⟨#[47]⟩ ++ b ∧ (47 : UInt8) ∉ b.data.toList ∧ lastB p = a.size := by
  rcases Lib.lastIdx_spec p 47 p.size with ⟨h1, h2⟩ | ⟨i, hi, h1, h2, h3⟩
  · left
    exact ⟨h1, by simpa using not_mem_of p 0 (fun j _ hj => h2 j hj)⟩
  · right
    have hil : i < p.data.toList.length := by rw [ba_len]; exact hi
    refine ⟨mkB (p.data.toList.take i), mkB (p.data.toList.drop (i + 1)), ?_, ?_, ?_⟩
    · apply ba_ext
      rw [ba_append, ba_append, mkB_toList, mkB_toList]
      have e : p.data.toList[i]'hil = 47 := by
        have h4 : p[i]'hi = 47 := UInt8.toNat_inj.1 (by rw [byte_at p i hi] at h2; show _ = 47; omega)
        exact h4
      rw [show (⟨#[47]⟩ : ByteArray).data.toList = [p.data.toList[i]'hil] by rw [e]]
      rw [List.append_assoc, List.singleton_append, List.getElem_cons_drop, List.take_append_drop]
    · rw [mkB_toList]
      exact not_mem_of p (i + 1) (fun j hj hjs => h3 j (by omega) hjs)
    · rw [mkB_size, List.length_take]
      rw [show lastB p = (i : Int) from h1]
      omega
def dirB (p : ByteArray) : ByteArray := p.extract 0 (lastB p).toNat
def baseB (p : ByteArray) : ByteArray := p.extract (lastB p + 1).toNat p.size
theorem dir_none {p : ByteArray} (h : lastB p = -1) : dirB p = ⟨#[]⟩ := by
  unfold dirB; rw [h]
  apply ba_ext; rw [Lib.extract_data]; simp
theorem base_none {p : ByteArray} (h : lastB p = -1) : baseB p = p := by
  unfold baseB; rw [h]
  apply ba_ext; rw [Lib.extract_data]
  rw [show ((-1 : Int) + 1).toNat = 0 from rfl, List.drop_zero, List.take_of_length_le (by rw [ba_len]; omega)]
theorem dir_some {p a b : ByteArray} (hp : p = a ++ ⟨#[47]⟩ ++ b) (h : lastB p = a.size) : dirB p = a := by
  unfold dirB; rw [h]
  apply ba_ext; rw [Lib.extract_data, hp, ba_append, ba_append]
  rw [Int.toNat_natCast, List.drop_zero, Nat.sub_zero, List.append_assoc, ← ba_len a, List.take_left]
theorem base_some {p a b : ByteArray} (hp : p = a ++ ⟨#[47]⟩ ++ b) (h : lastB p = a.size) : baseB p = b := by
  unfold baseB; rw [h]
  apply ba_ext; rw [Lib.extract_data, hp]
  have h1 : (a ++ ⟨#[47]⟩ ++ b).data.toList = (a ++ ⟨#[47]⟩).data.toList ++ b.data.toList := ba_append _ _
  have h2 : ((a.size : Int) + 1).toNat = (a ++ (⟨#[47]⟩ : ByteArray)).data.toList.length := by
    rw [ba_len, app_size]; show _ = a.size + 1; omega
  rw [h1, h2, List.drop_left, List.take_of_length_le]
  rw [ba_len, ba_len, app_size (a ++ ⟨#[47]⟩) b]; omega
theorem join_snoc (xs : List (List UInt8)) (x : List UInt8) (h : xs ≠ []) : Lib.join (xs ++ [x]) [47] = Lib.join xs [47] ++ 47 :: x := by
  unfold Lib.join
  induction xs with
  | nil => exact absurd rfl h
  | cons a r ih =>
    cases r with
    | nil => simp [List.intercalate, List.intersperse]
    | cons b r' =>
      have := ih (by simp)
      simp only [List.intercalate, List.cons_append, List.intersperse, List.flatten_cons] at this ⊢
      rw [this]
      simp
def joinB (ss : List ByteArray) : ByteArray := mkB (Lib.join (ss.map (·.data.toList)) [47])
theorem joinB_snoc (ss : List ByteArray) (x : ByteArray) (h : ss ≠ []) : joinB (ss ++ [x]) = joinB ss ++ ⟨#[47]⟩ ++ x := by
  unfold joinB
  rw [List.map_append, List.map_singleton, join_snoc _ _ (by simpa using h)]
  apply ba_ext
  rw [ba_append, ba_append, mkB_toList, mkB_toList]
  simp
theorem joinB_one (x : ByteArray) : joinB [x] = x := by
  unfold joinB Lib.join
  simp [List.intercalate, mkB_data]
/-- Those that have bytes, joined. -/
def joinS (ss : List ByteArray) : ByteArray := joinB (ss.filter some1)
theorem joinB_size (ss : List ByteArray) : (joinB ss).size ≤ cnt ss := by
  obtain ⟨n, hn⟩ : ∃ n, n = ss.length := ⟨_, rfl⟩
  induction n generalizing ss with
  | zero =>
    have : ss = [] := List.eq_nil_of_length_eq_zero hn.symm
    subst this
    exact Nat.zero_le _
  | succ n ih =>
    have hne : ss ≠ [] := by intro e; subst e; simp at hn
    obtain ⟨l, x, rfl⟩ : ∃ l x, ss = l ++ [x] := ⟨_, _, (List.dropLast_concat_getLast hne).symm⟩
    have hl : n = l.length := by simpa using hn
    have h1 := ih l hl
    rw [cnt_append]
    show _ ≤ cnt l + (x.size + 1 + 0)
    by_cases h : l = []
    · subst h; rw [List.nil_append, joinB_one]; omega
    · rw [joinB_snoc l x h, app_size, app_size]
      have : (⟨#[47]⟩ : ByteArray).size = 1 := rfl
      omega
theorem cnt_filter (ss : List ByteArray) : cnt (ss.filter some1) ≤ cnt ss := by
  induction ss with
  | nil => simp
  | cons a r ih =>
    rw [List.filter_cons]
    split
    · simp only [cnt]; omega
    · simp only [cnt]; omega
def underL (d p : List UInt8) : Option (List UInt8) :=
  if Lib.hasPrefix p d then
    if Lib.hasPrefix (p.drop d.length) [47] then
      if (p.drop d.length).drop 1 = [] then none else some ((p.drop d.length).drop 1)
    else none
  else none
def underB (d p : ByteArray) : ByteArray × Bool :=
  if some1 d then (match underL d.data.toList p.data.toList with | some q => (mkB q, true) | none => (⟨#[]⟩, false)) else (p, some1 p)
theorem prefix_iff (p d : List UInt8) : Lib.hasPrefix p d = true ↔ ∃ r, p = d ++ r := by
  unfold Lib.hasPrefix
  rw [List.isPrefixOf_iff_prefix]
  constructor
  · rintro ⟨r, h⟩; exact ⟨r, h.symm⟩
  · rintro ⟨r, h⟩; exact ⟨r, h.symm⟩
theorem underL_iff (d p q : List UInt8) : underL d p = some q ↔ p = d ++ 47 :: q ∧ q ≠ [] := by
  unfold underL
  constructor
  · intro h
    split at h
    · rename_i h1
      split at h
      · rename_i h2
        split at h
        · cases h
        · rename_i h3
          obtain ⟨r, rfl⟩ := (prefix_iff _ _).1 h1
          rw [List.drop_left] at h2 h3 h
          obtain ⟨r2, rfl⟩ := (prefix_iff _ _).1 h2
          simp at h h3
          subst h
          exact ⟨by simp, h3⟩
      · cases h
    · cases h
  · rintro ⟨rfl, hq⟩
    rw [if_pos ((prefix_iff _ _).2 ⟨_, rfl⟩), List.drop_left, if_pos ((prefix_iff (47 :: q) [47]).2 ⟨q, rfl⟩)]
    rw [show List.drop 1 (47 :: q) = q from rfl, if_neg hq]
theorem underL_none (d p : List UInt8) (h : ∀ q, q ≠ [] → p ≠ d ++ 47 :: q) : underL d p = none := by
  cases hu : underL d p with
  | none => rfl
  | some q =>
    obtain ⟨h1, h2⟩ := (underL_iff d p q).1 hu
    exact absurd h1 (h q h2)
end Go.Proofs.YtdhaanaenklleaaGreatDoor
namespace Go.Proofs.YtdhaanaenklleaaGreatDoor
set_option linter.unusedVariables false

def lex {α : Type} [DecidableEq α] (lt : α → α → Bool) : List α → List α → Bool
  | _, [] => false
  | [], _ :: _ => true
  | a :: x, b :: y => lt a b || (decide (a = b) && lex lt x y)
structure SO {α : Type} (lt : α → α → Bool) : Prop where
  irr : ∀ a, lt a a = false
  tra : ∀ a b c, lt a b = true → lt b c = true → lt a c = true
  tri : ∀ a b, lt a b = false → lt b a = false → a = b
theorem SO.asy {α : Type} {lt : α → α → Bool} (h : SO lt) {a b : α} (h1 : lt a b = true) : lt b a = false := by
  cases e : lt b a with
  | false => rfl
  | true => have := h.tra _ _ _ h1 e; rw [h.irr] at this; cases this
theorem SO.lex {α : Type} [DecidableEq α] {lt : α → α → Bool} (h : SO lt) : SO (lex lt) := by
  refine ⟨?_, ?_, ?_⟩
  · intro a
    induction a with
    | nil => rfl
    | cons x r ih => simp only [YtdhaanaenklleaaGreatDoor.lex]; rw [h.irr, ih]; simp
  · intro a
    induction a with
    | nil =>
      intro b c h1 h2
      cases c with
      | nil => cases b <;> simp [YtdhaanaenklleaaGreatDoor.lex] at h2
      | cons z t => rfl
    | cons x r ih =>
      intro b c h1 h2
      cases b with
      | nil => simp [YtdhaanaenklleaaGreatDoor.lex] at h1
      | cons y s =>
        cases c with
        | nil => simp [YtdhaanaenklleaaGreatDoor.lex] at h2
        | cons z t =>
          simp only [YtdhaanaenklleaaGreatDoor.lex, Bool.or_eq_true, Bool.and_eq_true, decide_eq_true_iff] at h1 h2 ⊢
          rcases h1 with h1 | ⟨rfl, h1⟩
          · rcases h2 with h2 | ⟨rfl, h2⟩
            · exact .inl (h.tra _ _ _ h1 h2)
            · exact .inl h1
          · rcases h2 with h2 | ⟨rfl, h2⟩
            · exact .inl h2
            · exact .inr ⟨rfl, ih _ _ h1 h2⟩
  · intro a
    induction a with
    | nil =>
      intro b h1 h2
      cases b with
      | nil => rfl
      | cons y s => simp [YtdhaanaenklleaaGreatDoor.lex] at h1
    | cons x r ih =>
      intro b h1 h2
      cases b with
      | nil => simp [YtdhaanaenklleaaGreatDoor.lex] at h2
      | cons y s =>
        simp only [YtdhaanaenklleaaGreatDoor.lex, Bool.or_eq_false_iff, Bool.and_eq_false_iff, decide_eq_false_iff_not] at h1 h2
        have e := h.tri x y h1.1 h2.1
        subst e
        rw [ih s (by rcases h1.2 with h | h; exact absurd rfl h; exact h) (by rcases h2.2 with h | h; exact absurd rfl h; exact h)]
def cmpO {α : Type} [DecidableEq α] (lt : α → α → Bool) (a b : α) : Int := if lt a b then -1 else if a = b then 0 else 1
section
variable {α : Type} [DecidableEq α] {lt : α → α → Bool} (h : SO lt)
include h
theorem SO.neg (a b : α) : cmpO lt b a = - cmpO lt a b := by
  unfold cmpO
  cases h1 : lt a b with
  | true =>
    have h2 := h.asy h1
    rw [h2, if_neg (by decide), if_neg (fun e => by subst e; rw [h.irr] at h1; cases h1), if_pos rfl]; rfl
  | false =>
    cases h2 : lt b a with
    | true => rw [if_pos rfl, if_neg (by decide), if_neg (fun e => by subst e; rw [h.irr] at h2; cases h2)]
    | false => have e := h.tri a b h1 h2; subst e; simp
theorem SO.zero (a b : α) : cmpO lt a b = 0 ↔ a = b := by
  unfold cmpO
  constructor
  · intro e
    split at e
    · omega
    · split at e
      · assumption
      · omega
  · rintro rfl; rw [h.irr]; simp
theorem SO.le (a b c : α) (h1 : cmpO lt a b ≤ 0) (h2 : cmpO lt b c ≤ 0) : cmpO lt a c ≤ 0 := by
  unfold cmpO at *
  split at h1
  · rename_i e1
    split at h2
    · rename_i e2
      rw [if_pos (h.tra _ _ _ e1 e2)]; omega
    · split at h2
      · rename_i e2; subst e2; rw [if_pos e1]; omega
      · omega
  · split at h1
    · rename_i e1; subst e1; exact h2
    · omega
end

theorem u8_so : SO (fun a b : UInt8 => decide (a < b)) := by
  refine ⟨fun a => ?_, fun a b c h1 h2 => ?_, fun a b h1 h2 => ?_⟩
  · exact decide_eq_false (UInt8.lt_irrefl a)
  · exact decide_eq_true (UInt8.lt_trans (of_decide_eq_true h1) (of_decide_eq_true h2))
  · have h1 := of_decide_eq_false h1
    have h2 := of_decide_eq_false h2
    rw [UInt8.lt_iff_toNat_lt] at h1 h2
    exact UInt8.toNat_inj.1 (by omega)
theorem less_lex : ∀ x y : List UInt8, Op.bytesLess x y = lex (fun a b : UInt8 => decide (a < b)) x y
  | [], [] => rfl
  | _ :: _, [] => rfl
  | [], _ :: _ => rfl
  | a :: x, b :: y => by
    show (decide (a < b) || (a == b && Op.bytesLess x y)) = (decide (a < b) || (decide (a = b) && lex _ x y))
    rw [less_lex x y]; rfl
def bl (a b : ByteArray) : Bool := Op.bytesLess a.toList b.toList
theorem bl_so : SO bl := by
  have h := u8_so.lex
  refine ⟨fun a => ?_, fun a b c h1 h2 => ?_, fun a b h1 h2 => ?_⟩
  · unfold bl; rw [less_lex]; exact h.irr _
  · unfold bl at *; rw [less_lex] at *; exact h.tra _ _ _ h1 h2
  · unfold bl at *; rw [less_lex] at *
    have := h.tri _ _ h1 h2
    rw [Lib.toList_data, Lib.toList_data] at this
    exact ba_ext this
def ord (a b : ByteArray) : Int := cmpO bl a b
def cmpL (a b : List ByteArray) : Int := cmpO (lex bl) a b
theorem cmpL_cons (x y : ByteArray) (r s : List ByteArray) : cmpL (x :: r) (y :: s) = if ord x y = 0 then cmpL r s else ord x y := by
  unfold cmpL ord
  by_cases e : x = y
  · subst e
    rw [if_pos ((bl_so.zero x x).2 rfl)]
    unfold cmpO
    have : lex bl (x :: r) (x :: s) = lex bl r s := by simp only [lex]; rw [bl_so.irr]; simp
    rw [this]
    simp
  · rw [if_neg (fun h => e ((bl_so.zero x y).1 h))]
    unfold cmpO
    have : lex bl (x :: r) (y :: s) = bl x y := by simp only [lex]; simp [e]
    rw [this, if_neg e]
    simp [e]
theorem cmpL_app (p r s : List ByteArray) : cmpL (p ++ r) (p ++ s) = cmpL r s := by
  induction p with
  | nil => rfl
  | cons x p ih => rw [List.cons_append, List.cons_append, cmpL_cons, if_pos (show ord x x = 0 from (bl_so.zero x x).2 rfl), ih]
theorem cmpL_nil : cmpL [] [] = 0 := rfl
theorem cmpL_left (y : ByteArray) (s : List ByteArray) : cmpL [] (y :: s) = -1 := rfl
theorem cmpL_right (y : ByteArray) (s : List ByteArray) : cmpL (y :: s) [] = 1 := rfl
theorem ord_less {a b : ByteArray} (h : Op.bytesLess a.toList b.toList = true) : ord a b = -1 := by
  unfold ord cmpO bl; rw [h]; rfl
theorem ord_more {a b : ByteArray} (h : Op.bytesLess a.toList b.toList = false) (h2 : (!a.toList == b.toList) = true) : ord a b = 1 := by
  unfold ord cmpO bl
  rw [h, if_neg (by decide), if_neg (fun e => by subst e; simp at h2)]
theorem ord_same {a b : ByteArray} (h : Op.bytesLess a.toList b.toList = false) (h2 : (!a.toList == b.toList) = false) : ord a b = 0 := by
  have e : a = b := by
    have : a.toList = b.toList := by simpa using h2
    rw [Lib.toList_data, Lib.toList_data] at this
    exact ba_ext this
  subst e
  exact (bl_so.zero a a).2 rfl
/-- Up to k the same. -/
theorem cmpL_at (a b : List ByteArray) (k : Nat) (h : a.take k = b.take k) : cmpL a b = cmpL (a.drop k) (b.drop k) := by
  conv => lhs; rw [← List.take_append_drop k a, ← List.take_append_drop k b, h, cmpL_app]
theorem drop_getD (a : List ByteArray) (k : Nat) (h : k < a.length) : a.drop k = a.getD k ByteArray.empty :: a.drop (k + 1) := by
  have e : a.getD k ByteArray.empty = a[k] := by simp [List.getD, h]
  rw [e, List.getElem_cons_drop]
theorem take_getD (a : List ByteArray) (k : Nat) (h : k < a.length) : a.take (k + 1) = a.take k ++ [a.getD k ByteArray.empty] := by
  have e : a.getD k ByteArray.empty = a[k] := by simp [List.getD, h]
  rw [e, List.take_succ_eq_append_getElem h]
end Go.Proofs.YtdhaanaenklleaaGreatDoor
namespace Go.Proofs.YtdhaanaenklleaaGreatDoor
set_option linter.unusedVariables false
open Go.ChangeShapes Go.WideShapes Go.ChangeAt Go.RowKit

theorem nan_any (a : ByteArray) (w : World) : Calls Tryz.prog 110 #[.string a] w fun e w' => e = .returned (.bool false) ∧ w = w' := by
  have h1 : (a.toList == a.toList) = true := by simp
  go_enter Tryz.func110, Tryz.ntmps110
  go_wp2_with fail
  go_ret
  exact ⟨rfl, rfl⟩
set_option maxRecDepth 100000 in
set_option maxHeartbeats 400000 in
theorem cmp_any (a b : ByteArray) (w : World) : Calls Tryz.prog 85 #[.string a, .string b] w fun e w' => e = .returned (.int .i64 (ord a b)) ∧ w = w' := by
  go_enter Tryz.func85, Tryz.ntmps85
  go_wp2_with fail
  refine (nan_any a _).mono ?_
  rintro e w1 ⟨rfl, rfl⟩
  go_wp2_with fail
  refine (nan_any b _).mono ?_
  rintro e w1 ⟨rfl, rfl⟩
  go_wp2_with fail
  · rename_i h
    go_ret
    exact ⟨by rw [ord_less h]; rfl, rfl⟩
  · rename_i h1 _ _ h2
    go_ret
    exact ⟨by rw [ord_more h1 h2]; rfl, rfl⟩
  · rename_i h1 h2
    go_ret
    exact ⟨by rw [ord_same h1 h2]; rfl, rfl⟩

set_option maxRecDepth 100000 in
set_option maxHeartbeats 1000000 in
theorem scmp_any (v u : Value) (a b : List ByteArray) (w : World) (hv : Strs w v a) (hu : Strs w u b) (ha : a.length ≤ 1073741825) (hb : b.length ≤ 1073741825) :
    Calls Tryz.prog 58 #[v, u] w fun e w' => e = .returned (.int .i64 (cmpL a b)) ∧ w = w' := by
  obtain ⟨p, cap, rfl, hp⟩ := strs_shape hv
  obtain ⟨q, cap2, rfl, hq⟩ := strs_shape hu
  have Hp := Lib.hid hp
  have Hq := Lib.hid hq
  obtain ⟨la, hla⟩ : ∃ la, la = a.length := ⟨_, rfl⟩
  obtain ⟨lb, hlb⟩ : ∃ lb, lb = b.length := ⟨_, rfl⟩
  rw [← hla] at Hp ha ⊢
  rw [← hlb] at Hq hb ⊢
  have Hla := Lib.hid hla
  have Hlb := Lib.hid hlb
  clear hv hu hp hq hla hlb
  go_enter Tryz.func58, Tryz.ntmps58
  go_wp2_with fail
  go_loopg [5, 6, 7, 8, 11] la (fun g _ _ _ _ iv wr => ∃ k : Nat, k + g = la ∧ k ≤ lb ∧ iv = .int .i64 k ∧ a.take k = b.take k ∧ w = wr)
  case atStart => exact ⟨0, by omega, by omega, rfl, rfl, rfl⟩
  case round =>
    obtain ⟨k, hkg, hkb, rfl, htk, rfl⟩ := hrel
    have Hat := Lib.hid (cmpL_at a b k htk)
    have Htk := Lib.hid htk
    clear htk
    by_cases hlt : k < la
    · obtain ⟨b1, off, rfl, hb1, hcap, hmax, hcell⟩ := Hp.out (by omega)
      have hc1 := hcell k hlt
      have hda := drop_getD a k (by have := Hla.out; omega)
      have hta := take_getD a k (by have := Hla.out; omega)
      unfold maxLen at hmax
      obtain ⟨x, hx⟩ : ∃ x, x = a.getD k ByteArray.empty := ⟨_, rfl⟩
      rw [← hx] at hc1 hda hta
      have Hda := Lib.hid hda
      have Hta := Lib.hid hta
      clear hx hcell hda hta
      by_cases hlt2 : k < lb
      · obtain ⟨b2, off2, rfl, hb2, hcap2, hmax2, hcell2⟩ := Hq.out (by omega)
        have hc2 := hcell2 k hlt2
        have hdb := drop_getD b k (by have := Hlb.out; omega)
        have htb := take_getD b k (by have := Hlb.out; omega)
        unfold maxLen at hmax2
        obtain ⟨y, hy⟩ : ∃ y, y = b.getD k ByteArray.empty := ⟨_, rfl⟩
        rw [← hy] at hc2 hdb htb
        have Hdb := Lib.hid hdb
        have Htb := Lib.hid htb
        have hg : ¬ (lb : Int) ≤ (k : Int) := by omega
        have HC := Lib.hid (fun w1 => cmp_any x y w1)
        clear hy hcell2 hdb htb
        by_cases ho : ord x y = 0
        · have e : x = y := (bl_so.zero x y).1 ho
          have Hn := Lib.hid (show a.take (k + 1) = b.take (k + 1) by rw [Hta.out, Htb.out, Htk.out, e])
          rw [ho] at HC
          clear ho e
          go_wp2_with fail
          refine (HC.out _).mono ?_
          rintro e w1 ⟨rfl, rfl⟩
          go_wp2_with fail
          go_roundg (gk - 1)
          case measure => omega
          case rel => exact ⟨k + 1, by omega, by omega, by go_num, Hn.out, rfl⟩
        · have Hn := Lib.hid (show cmpL a b = ord x y by rw [Hat.out, Hda.out, Hdb.out, cmpL_cons, if_neg ho])
          have ho2 : ((ord x y != 0) : Bool) = true := by rw [bne_iff_ne]; exact ho
          generalize ord x y = z at *
          go_wp2_with fail
          refine (HC.out _).mono ?_
          rintro e w1 ⟨rfl, rfl⟩
          go_wp2_with fail
          go_ret
          exact ⟨by rw [Hn.out]; rfl, rfl⟩
      · have hg : (lb : Int) ≤ (k : Int) := by omega
        have hdb : b.drop k = [] := List.drop_eq_nil_of_le (by have := Hlb.out; omega)
        have Hn := Lib.hid (show cmpL a b = 1 by rw [Hat.out, Hda.out, hdb, cmpL_right])
        clear hdb
        go_wp2_with fail
        go_ret
        exact ⟨by rw [Hn.out]; rfl, rfl⟩
    · have hk : k = la := by omega
      subst hk
      have hda : a.drop k = [] := List.drop_eq_nil_of_le (by have := Hla.out; omega)
      by_cases hlt2 : k < lb
      · have hdb := drop_getD b k (by have := Hlb.out; omega)
        have Hn := Lib.hid (show cmpL a b = -1 by rw [Hat.out, hda, hdb, cmpL_left])
        have hg : (k : Int) < (lb : Int) := by omega
        clear hda hdb
        go_wp2_with fail
        go_ret
        exact ⟨by rw [Hn.out]; rfl, rfl⟩
      · have hdb : b.drop k = [] := List.drop_eq_nil_of_le (by have := Hlb.out; omega)
        have Hn := Lib.hid (show cmpL a b = 0 by rw [Hat.out, hda, hdb, cmpL_nil])
        have hg : ¬ (k : Int) < (lb : Int) := by omega
        clear hda hdb
        go_wp2_with fail
        go_ret
        exact ⟨by rw [Hn.out]; rfl, rfl⟩

def cmpP (a b : ByteArray) : Int := cmpL (splitL a) (splitL b)
theorem splitL_len (a : ByteArray) : (splitL a).length ≤ a.size + 1 := by
  unfold splitL
  split
  · have := cnt_len (cutB 47 a); rw [cutB_cnt] at this; omega
  · simp
theorem pcmp_any (a b : ByteArray) (m : Int) (w : World) (hm : w.cell? ⟨1, 0, none⟩ = some (.int .i64 m)) (ha : a.size ≤ 1073741824) (hb : b.size ≤ 1073741824) :
    Calls Tryz.prog 37 #[.string a, .string b] w fun e w' => e = .returned (.int .i64 (cmpP a b)) ∧ Below w.heap.size w w' := by
  have h0 : 1 < w.heap.size := by
    have := World.block_lt_of_cell? w _ hm
    simpa using this
  have h1 := splitL_len a
  have h2 := splitL_len b
  have H1 := Lib.hid (psplit_any a m w ha hm)
  have H2 := Lib.hid (fun (w1 : World) (hB : Below w.heap.size w w1) => psplit_any b m w1 hb ((hB.cell (p := ⟨1, 0, none⟩) h0).trans hm))
  have He := Lib.hid (show cmpP a b = cmpL (splitL a) (splitL b) from rfl)
  generalize splitL a = x at *
  generalize splitL b = y at *
  generalize cmpP a b = r at *
  go_enter Tryz.func37, Tryz.ntmps37
  go_wp2_with fail
  refine H1.out.mono ?_
  rintro e w1 ⟨v, rfl, hv, hB⟩
  have hsv := Strs.ofRow hv
  clear hv
  go_wp2_with fail
  refine (H2.out _ hB).mono ?_
  rintro e w2 ⟨u, rfl, hu, hB2⟩
  have hsu := Strs.ofRow hu
  have hsv2 := hsv.below hB2
  replace hB := hB.trans (hB2.mono hB.size)
  clear hu hsv hB2
  go_wp2_with fail
  refine (scmp_any v u x y w2 hsv2 hsu (by omega) (by omega)).mono ?_
  rintro e w3 ⟨rfl, rfl⟩
  go_wp2_with fail
  go_ret
  exact ⟨by rw [He.out]; rfl, hB⟩

end Go.Proofs.YtdhaanaenklleaaGreatDoor
namespace Go.Proofs.YtdhaanaenklleaaGreatDoor
set_option linter.unusedVariables false
open Go.ChangeShapes Go.WideShapes Go.ChangeAt Go.RowKit

theorem cutPre_any (s p : ByteArray) (w : World) : Calls Tryz.prog 89 #[.string s, .string p] w fun e w' => e = .returned (.tuple #[.string (mkB (Lib.trimPrefix s.data.toList p.data.toList)), .bool (Lib.hasPrefix s.data.toList p.data.toList)]) ∧ w = w' := by
  refine (Tryz.strings_CutPrefix s p w).mono ?_
  rintro e w' ⟨rfl, rfl⟩
  exact ⟨rfl, rfl⟩
/-- What a text's bytes tell a walk. -/
theorem some_facts {s : ByteArray} (h : some1 s = true) : (!s.toList.isEmpty) = true ∧ (s.toList == ([] : List UInt8)) = false := by
  refine ⟨toList_some s h, ?_⟩
  have := toList_empty s h
  rw [Lib.toList_data ⟨#[]⟩] at this
  exact this
theorem none_facts {s : ByteArray} (h : some1 s = false) : (!s.toList.isEmpty) = false ∧ (s.toList == ([] : List UInt8)) = true := by
  have e := empty_of s h
  exact ⟨by rw [e, Lib.toList_data]; rfl, by rw [e, Lib.toList_data]; rfl⟩
def Under2 (d p : ByteArray) (w : World) (e : Ending) (w' : World) : Prop := e = .returned (.tuple #[.string (underB d p).1, .bool (underB d p).2]) ∧ w = w'
theorem under2_of {d p : ByteArray} {r : ByteArray} {b : Bool} (h : underB d p = (r, b)) (w : World) : Under2 d p w (.returned (.tuple #[.string r, .bool b])) w := by
  unfold Under2; rw [h]; exact ⟨rfl, rfl⟩
theorem mkB_ne {l : List UInt8} (h : some1 (mkB l) = true) : l ≠ [] := by
  rintro rfl; exact absurd h (by decide)
theorem mkB_nil {l : List UInt8} (h : some1 (mkB l) = false) : l = [] := by
  have := empty_of _ h
  exact congrArg (fun x : ByteArray => x.data.toList) this

set_option maxRecDepth 100000 in
set_option maxHeartbeats 400000 in
theorem under_any (d p : ByteArray) (w : World) : Calls Tryz.prog 61 #[.string d, .string p] w (Under2 d p w) := by
  cases hd : some1 d with
  | false =>
    obtain ⟨d1, d2⟩ := none_facts hd
    cases hp : some1 p with
    | false =>
      obtain ⟨p1, p2⟩ := none_facts hp
      have Hu := Lib.hid (show underB d p = (p, false) by unfold underB; rw [hd, hp]; rfl)
      clear hd hp
      go_enter Tryz.func61, Tryz.ntmps61
      go_wp2_with fail
      go_ret2
      exact under2_of Hu.out w
    | true =>
      obtain ⟨p1, p2⟩ := some_facts hp
      have Hu := Lib.hid (show underB d p = (p, true) by unfold underB; rw [hd, hp]; rfl)
      clear hd hp
      go_enter Tryz.func61, Tryz.ntmps61
      go_wp2_with fail
      go_ret2
      exact under2_of Hu.out w
  | true =>
    obtain ⟨d1, d2⟩ := some_facts hd
    have hu : underB d p = (match underL d.data.toList p.data.toList with | some q => (mkB q, true) | none => (⟨#[]⟩, false)) := by unfold underB; rw [hd]; rfl
    have H1 := fun w1 => cutPre_any p d w1
    have H2 := fun w1 => cutPre_any (mkB (p.data.toList.drop d.data.toList.length)) ⟨#[47]⟩ w1
    cases h1 : Lib.hasPrefix p.data.toList d.data.toList with
    | false =>
      have Hu := Lib.hid (show underB d p = (⟨#[]⟩, false) by rw [hu]; unfold underL; rw [h1]; rfl)
      rw [h1] at H1
      have H1' := Lib.hid H1
      clear H1 H2 hu hd h1
      generalize mkB (Lib.trimPrefix p.data.toList d.data.toList) = r at *
      go_enter Tryz.func61, Tryz.ntmps61
      go_wp2_with fail
      refine (H1'.out _).mono ?_
      rintro e w1 ⟨rfl, rfl⟩
      go_wp2_with fail
      go_ret2
      exact under2_of Hu.out w
    | true =>
      have ht : Lib.trimPrefix p.data.toList d.data.toList = p.data.toList.drop d.data.toList.length := by unfold Lib.trimPrefix; rw [h1]; rfl
      rw [h1, ht] at H1
      rw [mkB_toList, show (⟨#[47]⟩ : ByteArray).data.toList = [47] from rfl] at H2
      cases h2 : Lib.hasPrefix (p.data.toList.drop d.data.toList.length) [47] with
      | false =>
        have Hu := Lib.hid (show underB d p = (⟨#[]⟩, false) by rw [hu]; unfold underL; rw [h1, h2]; rfl)
        rw [h2] at H2
        have H1' := Lib.hid H1
        have H2' := Lib.hid H2
        clear H1 H2 hu hd h1 ht h2
        generalize mkB (Lib.trimPrefix (p.data.toList.drop d.data.toList.length) [47]) = q at *
        generalize mkB (p.data.toList.drop d.data.toList.length) = r at *
        go_enter Tryz.func61, Tryz.ntmps61
        go_wp2_with fail
        refine (H1'.out _).mono ?_
        rintro e w1 ⟨rfl, rfl⟩
        go_wp2_with fail
        refine (H2'.out _).mono ?_
        rintro e w1 ⟨rfl, rfl⟩
        go_wp2_with fail
        go_ret2
        exact under2_of Hu.out w
      | true =>
        have ht2 : Lib.trimPrefix (p.data.toList.drop d.data.toList.length) [47] = (p.data.toList.drop d.data.toList.length).drop 1 := by unfold Lib.trimPrefix; rw [h2]; rfl
        rw [h2, ht2] at H2
        have H1' := Lib.hid H1
        have H2' := Lib.hid H2
        clear H1 H2
        cases hq : some1 (mkB ((p.data.toList.drop d.data.toList.length).drop 1)) with
        | false =>
          obtain ⟨q1, q2⟩ := none_facts hq
          have Hu := Lib.hid (show underB d p = (⟨#[]⟩, false) by rw [hu]; unfold underL; rw [if_pos h1, if_pos h2, if_pos (mkB_nil hq)])
          clear hu hd h1 ht h2 ht2 hq
          generalize mkB ((p.data.toList.drop d.data.toList.length).drop 1) = q at *
          generalize mkB (p.data.toList.drop d.data.toList.length) = r at *
          go_enter Tryz.func61, Tryz.ntmps61
          go_wp2_with fail
          refine (H1'.out _).mono ?_
          rintro e w1 ⟨rfl, rfl⟩
          go_wp2_with fail
          refine (H2'.out _).mono ?_
          rintro e w1 ⟨rfl, rfl⟩
          go_wp2_with fail
          go_ret2
          exact under2_of Hu.out w
        | true =>
          obtain ⟨q1, q2⟩ := some_facts hq
          have Hu := Lib.hid (show underB d p = (mkB ((p.data.toList.drop d.data.toList.length).drop 1), true) by rw [hu]; unfold underL; rw [if_pos h1, if_pos h2, if_neg (mkB_ne hq)])
          clear hu hd h1 ht h2 ht2 hq
          generalize mkB ((p.data.toList.drop d.data.toList.length).drop 1) = q at *
          generalize mkB (p.data.toList.drop d.data.toList.length) = r at *
          go_enter Tryz.func61, Tryz.ntmps61
          go_wp2_with fail
          refine (H1'.out _).mono ?_
          rintro e w1 ⟨rfl, rfl⟩
          go_wp2_with fail
          refine (H2'.out _).mono ?_
          rintro e w1 ⟨rfl, rfl⟩
          go_wp2_with fail
          go_ret2
          exact under2_of Hu.out w

theorem under_split (d p : ByteArray) (h1 : d.size + 1 < p.size) (h2 : p.extract 0 d.size = d) (h3 : p[d.size]'(by omega) = 47) : underL d.data.toList p.data.toList = some (p.extract (d.size + 1) p.size).data.toList := by
  rw [underL_iff]
  have hx : (p.extract (d.size + 1) p.size).data.toList = p.data.toList.drop (d.size + 1) := by
    rw [Lib.extract_data, List.take_of_length_le (by rw [List.length_drop, ba_len]; omega)]
  rw [hx]
  constructor
  · have hl : d.size < p.data.toList.length := by rw [ba_len]; omega
    have e1 : p.data.toList.take d.size = d.data.toList := by
      have := congrArg (fun x : ByteArray => x.data.toList) h2
      simp only [Lib.extract_data] at this
      simpa using this
    have e2 : p.data.toList[d.size]'hl = 47 := h3
    rw [← e1, ← e2, List.getElem_cons_drop, List.take_append_drop]
  · intro e
    have := congrArg List.length e
    rw [List.length_drop, ba_len] at this
    simp at this; omega
theorem under_no (d p : ByteArray) (h : ∀ (h1 : d.size + 1 < p.size), p.extract 0 d.size = d → p[d.size]'(by omega) = 47 → False) : underL d.data.toList p.data.toList = none := by
  apply underL_none
  intro q hq e
  have hs : p.size = d.size + (q.length + 1) := by
    have := congrArg List.length e
    rw [ba_len] at this
    rw [this, List.length_append, ba_len]; rfl
  have hl : 0 < q.length := List.length_pos_iff.2 hq
  refine h (by omega) ?_ ?_
  · apply ba_ext
    rw [Lib.extract_data, e, List.drop_zero, Nat.sub_zero, ← ba_len d, List.take_left]
  · have hl2 : d.size < p.data.toList.length := by rw [ba_len]; omega
    have e2 : p.data.toList[d.size]'hl2 = 47 := by
      have : p.data.toList[d.size]? = some 47 := by
        rw [e, List.getElem?_append_right (by rw [ba_len]; omega), ba_len]; simp
      exact (List.getElem?_eq_some_iff.1 this).2
    exact e2
set_option maxRecDepth 100000 in
set_option maxHeartbeats 400000 in
theorem refUnder_any (d p : ByteArray) (w : World) (hds : d.size ≤ 1073741824) (hps : p.size ≤ 1073741824) : Calls Tryz.prog 32 #[.string d, .string p] w (Under2 d p w) := by
  cases hd : some1 d with
  | false =>
    obtain ⟨d1, d2⟩ := none_facts hd
    cases hp : some1 p with
    | false =>
      obtain ⟨p1, p2⟩ := none_facts hp
      have Hu := Lib.hid (show underB d p = (p, false) by unfold underB; rw [hd, hp]; rfl)
      clear hd hp
      go_enter Tryz.func32, Tryz.ntmps32
      go_wp2_with fail
      go_ret2
      exact under2_of Hu.out w
    | true =>
      obtain ⟨p1, p2⟩ := some_facts hp
      have Hu := Lib.hid (show underB d p = (p, true) by unfold underB; rw [hd, hp]; rfl)
      clear hd hp
      go_enter Tryz.func32, Tryz.ntmps32
      go_wp2_with fail
      go_ret2
      exact under2_of Hu.out w
  | true =>
    obtain ⟨d1, d2⟩ := some_facts hd
    have hu : underB d p = (match underL d.data.toList p.data.toList with | some q => (mkB q, true) | none => (⟨#[]⟩, false)) := by unfold underB; rw [hd]; rfl
    clear hd
    by_cases h1 : d.size + 1 < p.size
    · have h1I : ¬ (p.size : Int) ≤ (d.size : Int) + 1 := by omega
      have hlt : d.size < p.size := by omega
      by_cases h2 : p.extract 0 d.size = d
      · have h2b := beq_of h2
        by_cases h3 : p[d.size]'hlt = 47
        · have h3b : (((p[d.size]'hlt).toNat : Int) == 47) = true := by rw [h3]; rfl
          have Hu := Lib.hid (show underB d p = (p.extract (d.size + 1) p.size, true) by rw [hu, under_split d p h1 h2 h3]; show (mkB _, true) = _; rw [mkB_data])
          clear hu h2 h3
          go_enter Tryz.func32, Tryz.ntmps32
          go_wp2_with fail
          go_ret2
          exact under2_of Hu.out w
        · have h3b : (((p[d.size]'hlt).toNat : Int) == 47) = false := by
            rw [beq_eq_false_iff_ne]; intro e; exact h3 (UInt8.toNat_inj.1 (by show _ = 47; omega))
          have Hu := Lib.hid (show underB d p = (⟨#[]⟩, false) by rw [hu, under_no d p (fun _ _ h => h3 h)])
          clear hu h2 h3
          go_enter Tryz.func32, Tryz.ntmps32
          go_wp2_with fail
          go_ret2
          exact under2_of Hu.out w
      · have h2b := beq_of_ne h2
        have Hu := Lib.hid (show underB d p = (⟨#[]⟩, false) by rw [hu, under_no d p (fun _ h _ => h2 h)])
        clear hu h2
        go_enter Tryz.func32, Tryz.ntmps32
        go_wp2_with fail
        go_ret2
        exact under2_of Hu.out w
    · have h1I : (p.size : Int) ≤ (d.size : Int) + 1 := by omega
      have Hu := Lib.hid (show underB d p = (⟨#[]⟩, false) by rw [hu, under_no d p (fun h _ _ => h1 h)])
      clear hu
      go_enter Tryz.func32, Tryz.ntmps32
      go_wp2_with fail
      go_ret2
      exact under2_of Hu.out w
end Go.Proofs.YtdhaanaenklleaaGreatDoor
