/- Walks: whether a list has a bad part; Good of both. -/
import Derived.Test.YtdhaanaenklleaaDoorWc
namespace Go.Proofs.YtdhaanaenklleaaDoor
set_option linter.unusedVariables false
open Go.ChangeShapes Go.WideShapes Go.ChangeAt Go.RowKit

def badF : Value := .func (.func 79) #[] #[]
set_option maxRecDepth 100000 in
set_option maxHeartbeats 400000 in
theorem index_any (v : Value) (ss : List ByteArray) (w : World) (hv : Strs w v ss) :
    Calls Tryd.prog 102 #[v, .func (.func 79) #[] #[]] w fun e w' => ∃ r : Int, e = .returned (.int .i64 r) ∧ decide (0 ≤ r) = ss.any badB ∧ w = w' := by
  obtain ⟨p, cap, rfl, hp⟩ := strs_shape hv
  have Hp := Lib.hid hp
  obtain ⟨len, hlen⟩ : ∃ len, len = ss.length := ⟨_, rfl⟩
  rw [← hlen] at Hp ⊢
  have Hlen := Lib.hid hlen
  clear hv hp hlen
  go_enter Tryd.func102, Tryd.ntmps102
  go_wp2_with fail
  go_loopg [5, 8] len (fun g _ iv wr => ∃ k : Nat, k + g = len ∧ iv = .int .i64 k ∧ (ss.take k).any badB = false ∧ w = wr)
  case atStart => exact ⟨0, by omega, rfl, rfl, rfl⟩
  case round =>
    obtain ⟨k, hkg, rfl, hno, rfl⟩ := hrel
    have Hno := Lib.hid hno
    clear hno
    by_cases hlt : k < len
    · obtain ⟨b, off, rfl, hb, hcap, hmax, hcell⟩ := Hp.out (by omega)
      have hc := hcell k hlt
      have hkl : k < ss.length := by have := Hlen.out; omega
      have hge : ss.getD k ByteArray.empty = ss[k] := by simp [List.getD, hkl]
      have hts := List.take_succ_eq_append_getElem hkl
      rw [← hge] at hts
      have hmem : ss.getD k ByteArray.empty ∈ ss := by rw [hge]; exact List.getElem_mem hkl
      unfold maxLen at hmax
      obtain ⟨y, hy⟩ : ∃ y, y = ss.getD k ByteArray.empty := ⟨_, rfl⟩
      rw [← hy] at hc hts hmem
      have Hts := Lib.hid hts
      have Hmem := Lib.hid hmem
      have HB := Lib.hid (fun w1 => bad_any y w1)
      clear hy hts hge hcell hmem
      cases hby : badB y with
      | true =>
        have hin : ss.any badB = true := List.any_eq_true.2 ⟨y, Hmem.out, hby⟩
        have Hin := Lib.hid hin
        rw [hby] at HB
        clear hin hby
        go_wp2_with fail
        refine (HB.out _).mono ?_
        rintro e w1 ⟨rfl, rfl⟩
        go_wp2_with fail
        go_ret
        exact ⟨_, rfl, by rw [Hin.out]; exact decide_eq_true (by omega), rfl⟩
      | false =>
        have hn : (ss.take (k + 1)).any badB = false := by
          rw [Hts.out, List.any_append, Hno.out]; simp [hby]
        have Hn := Lib.hid hn
        rw [hby] at HB
        clear hn hby
        go_wp2_with fail
        refine (HB.out _).mono ?_
        rintro e w1 ⟨rfl, rfl⟩
        go_wp2_with fail
        go_roundg (gk - 1)
        case measure => omega
        case rel => exact ⟨k + 1, by omega, by go_num, Hn.out, rfl⟩
    · have hin : ss.any badB = false := by
        have hno := Hno.out
        rw [List.take_of_length_le (by have := Hlen.out; omega)] at hno
        exact hno
      have Hin := Lib.hid hin
      clear hin
      go_wp2_with fail
      go_ret
      exact ⟨_, rfl, by rw [Hin.out]; rfl, rfl⟩
theorem containsf_any (v : Value) (ss : List ByteArray) (w : World) (hv : Strs w v ss) :
    Calls Tryd.prog 78 #[v, .func (.func 79) #[] #[]] w fun e w' => e = .returned (.bool (ss.any badB)) ∧ w = w' := by
  have H := Lib.hid (index_any v ss w hv)
  generalize ss.any badB = r at *
  go_enter Tryd.func78, Tryd.ntmps78
  go_wp2_with fail
  refine H.out.mono ?_
  rintro e w1 ⟨x, rfl, hx, rfl⟩
  go_wp2_with fail
  go_ret
  exact ⟨by rw [← hx]; rfl, rfl⟩

def goodB (p : ByteArray) : Bool := decide (p.size ≤ 128) && decide ((cutB 47 p).length ≤ 16) && (cutB 47 p).all partB
theorem cut_free (c : UInt8) (s : ByteArray) : ∀ x ∈ cutB c s, c ∉ x.data.toList := by
  intro x hx
  unfold cutB at hx
  obtain ⟨l, hl, rfl⟩ := List.mem_map.1 hx
  rw [mkB_toList]
  exact cuts_free c _ [] (by simp) l hl
theorem all_bad (s : ByteArray) : (cutB 47 s).all partB = !((cutB 47 s).any badB) := by
  have h : ∀ x ∈ cutB 47 s, partB x = !(badB x) := fun x hx => part_bad x (cut_free 47 s x hx)
  generalize cutB 47 s = L at *
  induction L with
  | nil => rfl
  | cons a r ih =>
    rw [List.all_cons, List.any_cons, h a (by simp), ih (fun x hx => h x (by simp [hx]))]
    cases badB a <;> rfl
theorem good_empty : goodB ⟨#[]⟩ = false := by decide +kernel

set_option maxRecDepth 100000 in
set_option maxHeartbeats 400000 in
theorem good_any (s : ByteArray) (m : Int) (w : World) (hs : s.size ≤ 1073741824) (hm : w.cell? ⟨1, 0, none⟩ = some (.int .i64 m)) :
    Calls Tryd.prog 49 #[.string s] w fun e w' => e = .returned (.bool (goodB s)) ∧ Below w.heap.size w w' := by
  cases hs1 : some1 s with
  | false =>
    have e := empty_of s hs1
    have Hd := Lib.hid (show goodB s = false by rw [e]; exact good_empty)
    have h1 : (!s.toList.isEmpty) = false := by rw [e, Lib.toList_data]; rfl
    have h2 : (s.toList == ([] : List UInt8)) = true := by rw [e, Lib.toList_data]; rfl
    clear e hs1
    go_enter Tryd.func49, Tryd.ntmps49
    go_wp2_with fail
    go_ret
    exact ⟨by rw [Hd.out]; rfl, Below.refl _ _⟩
  | true =>
    have n1 := toList_some s hs1
    have n2 : (s.toList == ([] : List UInt8)) = false := by
      have := toList_empty s hs1
      rw [Lib.toList_data ⟨#[]⟩] at this
      exact this
    have HS := Lib.hid (psplit_any s m w hs hm)
    have e : splitL s = cutB 47 s := by unfold splitL; rw [hs1]; rfl
    rw [e] at HS
    clear hs1 e
    by_cases hle : s.size ≤ 128
    · have hleI : (s.size : Int) ≤ 128 := by omega
      have Hg := Lib.hid (show goodB s = (decide ((cutB 47 s).length ≤ 16) && !((cutB 47 s).any badB)) by unfold goodB; rw [decide_eq_true hle, all_bad]; rfl)
      generalize cutB 47 s = L at *
      by_cases hn : L.length ≤ 16
      · have hnI : (L.length : Int) ≤ 16 := by omega
        have HC := Lib.hid (fun (v : Value) (w1 : World) (hv : Strs w1 v L) => containsf_any v L w1 hv)
        have Hg2 := Lib.hid (show goodB s = !(L.any badB) by rw [Hg.out, decide_eq_true hn]; rfl)
        generalize L.any badB = z at *
        clear hn
        go_enter Tryd.func49, Tryd.ntmps49
        go_wp2_with fail
        refine HS.out.mono ?_
        rintro e w1 ⟨v, rfl, hv, hB⟩
        have hst := Strs.ofRow hv
        obtain ⟨p, cap, rfl, _⟩ := strs_shape hst
        have Hst := Lib.hid hst
        clear hv hst
        generalize L.length = n at *
        go_wp2_with fail
        refine (HC.out _ _ Hst.out).mono ?_
        rintro e w2 ⟨rfl, rfl⟩
        go_wp2_with fail
        go_ret
        exact ⟨by rw [Hg2.out]; rfl, hB⟩
      · have hnI : ¬ (L.length : Int) ≤ 16 := by omega
        have Hg2 := Lib.hid (show goodB s = false by rw [Hg.out, decide_eq_false hn]; rfl)
        clear hn
        go_enter Tryd.func49, Tryd.ntmps49
        go_wp2_with fail
        refine HS.out.mono ?_
        rintro e w1 ⟨v, rfl, hv, hB⟩
        have hst := Strs.ofRow hv
        obtain ⟨p, cap, rfl, _⟩ := strs_shape hst
        clear hv hst
        go_wp2_with fail
        go_ret
        exact ⟨by rw [Hg2.out]; rfl, hB⟩
    · have hleI : ¬ (s.size : Int) ≤ 128 := by omega
      have Hg := Lib.hid (show goodB s = false by unfold goodB; rw [decide_eq_false hle]; rfl)
      go_enter Tryd.func49, Tryd.ntmps49
      go_wp2_with fail
      go_ret
      exact ⟨by rw [Hg.out]; rfl, Below.refl _ _⟩

set_option maxRecDepth 100000 in
set_option maxHeartbeats 400000 in
theorem refGood_any (s : ByteArray) (w : World) (hs : s.size ≤ 1073741824) :
    Calls Tryd.prog 47 #[.string s] w fun e w' => e = .returned (.bool (goodB s)) ∧ Below w.heap.size w w' := by
  have HS := Lib.hid (parts_own s w hs)
  have Hg := Lib.hid (show goodB s = (decide (s.size ≤ 128) && decide ((cutB 47 s).length ≤ 16) && (cutB 47 s).all partB) from rfl)
  have hce := fun k hk => cutB_each 47 s k hk
  have Hce := Lib.hid hce
  clear hce
  generalize cutB 47 s = L at *
  go_enter Tryd.func47, Tryd.ntmps47
  go_wp2_with fail
  refine HS.out.mono ?_
  rintro e w1 ⟨v, rfl, hv, hB⟩
  have hst := Strs.ofRow hv
  obtain ⟨p, cap, rfl, hp⟩ := strs_shape hst
  have Hp := Lib.hid hp
  obtain ⟨len, hlen⟩ : ∃ len, len = L.length := ⟨_, rfl⟩
  rw [← hlen] at Hp Hg ⊢
  have Hlen := Lib.hid hlen
  have hl30 : len ≤ 1073741825 ∨ True := .inr trivial
  clear hv hst hp hlen hl30
  go_wp2_with fail
  go_loopg [5, 10] len (fun g _ iv wr => ∃ k : Nat, k + g = len ∧ iv = .int .i64 k ∧ (L.take k).all partB = true ∧ w1 = wr)
  case atStart => exact ⟨0, by omega, rfl, rfl, rfl⟩
  case round =>
    obtain ⟨k, hkg, rfl, hno, rfl⟩ := hrel
    have Hno := Lib.hid hno
    clear hno
    by_cases hlt : k < len
    · obtain ⟨b, off, rfl, hb, hcap, hmax, hcell⟩ := Hp.out (by omega)
      have hc := hcell k hlt
      have hkl : k < L.length := by have := Hlen.out; omega
      have hge : L.getD k ByteArray.empty = L[k] := by simp [List.getD, hkl]
      have hts := List.take_succ_eq_append_getElem hkl
      rw [← hge] at hts
      have hmem : L.getD k ByteArray.empty ∈ L := by rw [hge]; exact List.getElem_mem hkl
      have hsz := Hce.out k hkl
      unfold maxLen at hmax
      obtain ⟨y, hy⟩ : ∃ y, y = L.getD k ByteArray.empty := ⟨_, rfl⟩
      rw [← hy] at hc hts hmem hsz
      have Hts := Lib.hid hts
      have Hmem := Lib.hid hmem
      have HP := Lib.hid (fun w1 => part_any y w1 (by omega))
      clear hy hts hge hcell hmem
      cases hby : partB y with
      | false =>
        have hin : L.all partB = false := List.all_eq_false.2 ⟨y, Hmem.out, by simp [hby]⟩
        have Hin := Lib.hid (show goodB s = false by rw [Hg.out, hin, Bool.and_false])
        rw [hby] at HP
        clear hin hby
        go_wp2_with fail
        refine (HP.out _).mono ?_
        rintro e w2 ⟨rfl, rfl⟩
        go_wp2_with fail
        go_ret
        exact ⟨by rw [Hin.out]; rfl, hB⟩
      | true =>
        have hn : (L.take (k + 1)).all partB = true := by
          rw [Hts.out, List.all_append, Hno.out]; simp [hby]
        have Hn := Lib.hid hn
        rw [hby] at HP
        clear hn hby
        go_wp2_with fail
        refine (HP.out _).mono ?_
        rintro e w2 ⟨rfl, rfl⟩
        go_wp2_with fail
        go_roundg (gk - 1)
        case measure => omega
        case rel => exact ⟨k + 1, by omega, by go_num, Hn.out, rfl⟩
    · have hin : L.all partB = true := by
        have hno := Hno.out
        rw [List.take_of_length_le (by have := Hlen.out; omega)] at hno
        exact hno
      have Hin := Lib.hid (show goodB s = (decide (s.size ≤ 128) && decide (len ≤ 16)) by rw [Hg.out, hin, Bool.and_true])
      clear hin
      by_cases h1 : s.size ≤ 128
      · have h1I : (s.size : Int) ≤ 128 := by omega
        by_cases h2 : len ≤ 16
        · have h2I : (len : Int) ≤ 16 := by omega
          have He := Lib.hid (show goodB s = true by rw [Hin.out, decide_eq_true h1, decide_eq_true h2]; rfl)
          go_wp2_with fail
          go_ret
          exact ⟨by rw [He.out]; rfl, hB⟩
        · have h2I : ¬ (len : Int) ≤ 16 := by omega
          have He := Lib.hid (show goodB s = false by rw [Hin.out, decide_eq_false h2]; simp)
          go_wp2_with fail
          go_ret
          exact ⟨by rw [He.out]; rfl, hB⟩
      · have h1I : ¬ (s.size : Int) ≤ 128 := by omega
        have He := Lib.hid (show goodB s = false by rw [Hin.out, decide_eq_false h1]; rfl)
        go_wp2_with fail
        go_ret
        exact ⟨by rw [He.out]; rfl, hB⟩
end Go.Proofs.YtdhaanaenklleaaDoor
