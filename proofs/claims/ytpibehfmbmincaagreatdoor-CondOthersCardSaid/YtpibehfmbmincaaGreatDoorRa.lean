/- Walks: lines of the elder form, put into the newer one. -/
import Derived.Test.YtpibehfmbmincaaGreatDoorQc
import Derived.Test.YtpibehfmbmincaaGreatDoorWd
import Derived.OwnWalk
namespace Go.Proofs.YtpibehfmbmincaaGreatDoor
set_option linter.unusedVariables false
open Go.ChangeShapes Go.WideShapes Go.ChangeAt Go.RowKit

/-- The library's number, whatever it is. -/
def MaxAt (w : World) : Prop := 3 < w.heap.size ∧ ∃ m : Int, w.cell? ⟨3, 0, none⟩ = some (.int .i64 m)
theorem MaxAt.below {w w' : World} {n : Nat} (h : MaxAt w) (hn : 3 < n) (hB : Below n w w') : MaxAt w' := by
  obtain ⟨h1, m, h2⟩ := h
  exact ⟨Nat.lt_of_lt_of_le h1 hB.size, m, (hB.cell (p := ⟨3, 0, none⟩) hn).trans h2⟩

/-- What stands between the signs c. -/
theorem split_own (c : UInt8) (s : ByteArray) (w : World) (hs : s.size ≤ 1073741824) (hm : MaxAt w) :
    Calls Tryz.prog 30 #[.string s, .string ⟨#[c]⟩] w fun e w' => ∃ v, e = .returned v ∧ w'.ownsRow w.heap.size 9 1 v (cutB c s).length ((cutB c s).map Value.string) ∧ Below w.heap.size w w' := by
  obtain ⟨_, m, hm⟩ := hm
  refine (Tryz.strings_Split s (mkB [c]) m w (by omega) hm (by rw [mkB_size]; exact Nat.le_refl 1)).mono ?_
  rintro e w' ⟨rfl, rfl⟩
  rw [splitB_cut, ← cutB_len]
  have hl := sums_cutB c s
  exact ⟨_, rfl, row_of_alloc _ _ (by unfold maxLen; omega), (Below.refl _ w).alloc (Nat.le_refl _) _⟩

theorem pred_any (x : Nat) (w : World) : Calls Tryz.prog 80 #[.int .i32 (x : Int)] w fun e w' => e = .returned (.bool (pw x)) ∧ w = w' := by
  by_cases h1 : x = 32
  · subst h1
    go_enter Tryz.func80, Tryz.ntmps80
    go_wp2_with fail
    go_ret
    exact ⟨rfl, rfl⟩
  · have b1 : ((x : Int) == 32) = false := by rw [beq_eq_false_iff_ne]; omega
    by_cases h2 : x = 9
    · subst h2
      go_enter Tryz.func80, Tryz.ntmps80
      go_wp2_with fail
      go_ret
      exact ⟨rfl, rfl⟩
    · have b2 : ((x : Int) == 9) = false := by rw [beq_eq_false_iff_ne]; omega
      have hp : pw x = false := by unfold pw; rw [beq_false_of_ne h1, beq_false_of_ne h2]; rfl
      rw [hp]
      go_enter Tryz.func80, Tryz.ntmps80
      go_wp2_with fail
      go_ret
      exact ⟨rfl, rfl⟩

theorem fields_any (s : ByteArray) (w : World) (hs : s.size ≤ 1073741824) :
    Calls Tryz.prog 79 #[.string s, .func (.func 80) #[] #[]] w fun e w' => ∃ v, e = .returned v ∧ w'.ownsRow w.heap.size 9 1 v (wordsB s).length ((wordsB s).map Value.string) ∧ Below w.heap.size w w' := by
  have h := Tryz.strings_FieldsFunc_runes 80 #[] (fun args w => by
    simp [callFunc]
    rw [if_neg (by decide +kernel), if_neg (by unfold Tryz.f80; simp)]) pw s w (by omega) (fun W x _ _ => (pred_any x W).mono fun e w' h => ⟨h.1, 0, h.2.symm⟩)
  rw [fields_words] at h
  refine h.mono ?_
  rintro e w' ⟨A, rfl, _, hown, hB⟩
  exact ⟨_, rfl, hown, hB⟩

theorem term_any (t : ByteArray) (w : World) (hs : t.size ≤ 1073741824) :
    Calls Tryz.prog 100 #[.string t] w fun e w' => e = .returned (.tuple #[.string (if okT t then idB t else noneB), .int .i64 (if okT t then 0 else 4)]) ∧ Below w.heap.size w w' := by
  have hT := fun w1 => (Tryz.strings_TrimPrefix t ⟨#[33]⟩ w1)
  have hz : (trimB t).size ≤ 1073741824 := by
    unfold trimB
    rw [mkB_size]
    have : (Lib.trimPrefix t.data.toList [33]).length ≤ t.data.toList.length := by unfold Lib.trimPrefix; split <;> simp
    rw [ba_len] at this
    omega
  have hG := fun w1 => tag_any (trimB t) w1 (by omega)
  have HT := Lib.hid hT
  have HG := Lib.hid hG
  clear hT hG hz
  have hok : tagB (trimB t) = okT t := rfl
  have he : mkB (Lib.trimPrefix t.data.toList [33]) = trimB t := rfl
  have He := Lib.hid he
  cases hk : okT t with
  | true =>
    rw [hok, hk] at HG
    simp only [reduceIte]
    clear hok hk he
    go_enter Tryz.func100, Tryz.ntmps100
    go_wp2_with fail
    refine (HT.out _).mono ?_
    rintro e w1 ⟨rfl, rfl⟩
    rw [show (⟨(Lib.trimPrefix t.data.toList [33]).toArray⟩ : ByteArray) = trimB t from He.out]
    go_wp2_with fail
    refine (HG.out _).mono ?_
    rintro e w2 ⟨rfl, rfl⟩
    clear HT HG He
    go_wp2_with fail
    go_ret2
    exact ⟨rfl, Below.refl _ _⟩
  | false =>
    rw [hok, hk] at HG
    simp only [Bool.false_eq_true, reduceIte]
    clear hok hk he
    go_enter Tryz.func100, Tryz.ntmps100
    go_wp2_with fail
    refine (HT.out _).mono ?_
    rintro e w1 ⟨rfl, rfl⟩
    rw [show (⟨(Lib.trimPrefix t.data.toList [33]).toArray⟩ : ByteArray) = trimB t from He.out]
    go_wp2_with fail
    refine (HG.out _).mono ?_
    rintro e w2 ⟨rfl, rfl⟩
    clear HT HG He
    go_wp2_with fail
    go_ret2
    exact ⟨rfl, Below.refl _ _⟩

theorem all_take {ok : ByteArray → Bool} {ss : List ByteArray} {k : Nat} (h : (ss.take k).all ok = true) (hk : k < ss.length) (hx : ok (ss.getD k ByteArray.empty) = true) : (ss.take (k + 1)).all ok = true := by
  rw [List.take_succ_eq_append_getElem hk, List.all_append, h]
  simp only [List.getD_eq_getElem?_getD, List.getElem?_eq_getElem hk, Option.getD_some] at hx
  simp [hx]
theorem not_all {ok : ByteArray → Bool} {ss : List ByteArray} {k : Nat} (hk : k < ss.length) (hx : ok (ss.getD k ByteArray.empty) = false) : (!ss.isEmpty && ss.all ok) = false := by
  have hm : ss[k] ∈ ss := List.getElem_mem hk
  have : ss.all ok = false := by
    rw [List.all_eq_false]
    refine ⟨ss[k], hm, ?_⟩
    simp only [List.getD_eq_getElem?_getD, List.getElem?_eq_getElem hk, Option.getD_some] at hx
    rw [hx]; decide
  rw [this, Bool.and_false]
theorem map_take {val : ByteArray → ByteArray} {ss : List ByteArray} {k : Nat} (hk : k < ss.length) : ((ss.take (k + 1)).map val).map Value.string = ((ss.take k).map val).map Value.string ++ [Value.string (val (ss.getD k ByteArray.empty))] := by
  rw [List.take_succ_eq_append_getElem hk, List.map_append, List.map_append]
  simp only [List.map_cons, List.map_nil, List.getD_eq_getElem?_getD, List.getElem?_eq_getElem hk, Option.getD_some]
theorem getD_mem {ss : List ByteArray} {k : Nat} (hk : k < ss.length) : ss.getD k ByteArray.empty ∈ ss := by
  simp only [List.getD_eq_getElem?_getD, List.getElem?_eq_getElem hk, Option.getD_some]
  exact List.getElem_mem hk
theorem sums_mem (ss : List ByteArray) : ∀ x ∈ ss, x.size ≤ sums ss := by
  induction ss with
  | nil => intro x h; cases h
  | cons a r ih =>
    intro x h
    rcases List.mem_cons.1 h with rfl | h
    · simp [sums]
    · have := ih x h; simp [sums]; omega
theorem wrap_one {sep : ByteArray} {L : List ByteArray} (h : L.length = 1) : wrapB sep L = L.getD 0 ByteArray.empty := by
  match L, h with
  | [x], _ => rfl
theorem wrap_many {sep : ByteArray} {L : List ByteArray} (h : 2 ≤ L.length) : wrapB sep L = ⟨#[40]⟩ ++ mkB (Lib.join (L.map (·.data.toList)) sep.data.toList) ++ ⟨#[41]⟩ := by
  match L, h with
  | x :: y :: r, _ =>
    apply ba_ext
    rw [ba_append, ba_append, mkB_toList]
    show 40 :: (_ ++ [41]) = _
    simp

set_option maxHeartbeats 1000000 in
theorem join_term (sep : ByteArray) (v : Value) (ss : List ByteArray) (w : World) (hv : Strs w v ss) (hm : MaxAt w) (hz : sums (ss.map idB) + ss.length * sep.size ≤ 1073741824) (hl : ss.length ≤ 1073741824)
    (hf : ∀ x ∈ ss, ∀ w1, MaxAt w1 → Calls Tryz.prog 100 #[.string x] w1 fun e w' => e = .returned (.tuple #[.string (if okT x then idB x else noneB), .int .i64 (if okT x then 0 else 4)]) ∧ Below w1.heap.size w1 w') :
    Calls Tryz.prog 62 #[.string sep, v, .func (.func 100) #[] #[]] w fun e w' => e = .returned (.tuple #[.string (joinR okT idB sep ss).1, .int .i64 (joinR okT idB sep ss).2]) ∧ Below w.heap.size w w' := by
  obtain ⟨i0, hi, hz0, hz1, hz2⟩ := info_parts Tryz.info9
  rcases hv with ⟨⟨pz, cz, rfl⟩, rfl⟩ | ⟨b, off, cap, rfl, hcap, hmax, hb, hcell⟩
  · go_enter Tryz.func62, Tryz.ntmps62
    go_wp2_with fail
    go_ret2
    exact ⟨rfl, Below.refl _ _⟩
  · by_cases h0 : ss.length = 0
    · obtain rfl := List.eq_nil_of_length_eq_zero h0
      go_enter Tryz.func62, Tryz.ntmps62
      go_wp2_with fail
      go_ret2
      exact ⟨rfl, Below.refl _ _⟩
    · have hne : ((ss.length : Int) == 0) = false := by rw [beq_eq_false_iff_ne]; omega
      obtain ⟨R, hR⟩ : ∃ R, R = joinR okT idB sep ss := ⟨_, rfl⟩
      rw [← hR]
      have HR := Lib.hid hR
      obtain ⟨len, hlen⟩ : ∃ len, len = ss.length := ⟨_, rfl⟩
      rw [← hlen] at hcap hl hz hcell hne h0 ⊢
      have Hlen := Lib.hid hlen
      have Hz := Lib.hid hz
      have HF := Lib.hid hf
      have HM := Lib.hid hm
      have HC := Lib.hid (fun w1 (h1 : Below w.heap.size w w1) j (hj : j < len) => (h1.cell (p := ⟨b, off + j, none⟩) hb).trans (hcell j hj))
      unfold maxLen at hmax
      clear hlen hz hf hm hcell hR
      go_enter Tryz.func62, Tryz.ntmps62
      go_wp2_with (at_make; refine wpList_make_own _ rfl _ _ 22 rfl w.heap.size 9 i0 (.string ⟨#[]⟩) 1 Tryz.underlying22 hi hz0 hz1 .i64 .i64 _ len rfl rfl (by omega) (by rw [hz2]; omega) (by unfold maxLen; omega) (Nat.le_refl _) ?_; intro w1 hown1 hgrow1; have hB1 : Below w.heap.size w w1 := (Below.refl _ w).grown hgrow1 (Nat.le_refl _) (fun k h => by cases h))
      go_loopg [8, 10, 11, 12, 21] len (fun g ov _ _ _ iv wr => ∃ k : Nat, k + g = len ∧ iv = .int .i64 k ∧ (ss.take k).all okT = true ∧ wr.ownsRow w.heap.size 9 1 ov k (((ss.take k).map idB).map Value.string) ∧ Below w.heap.size w wr)
      case atStart => exact ⟨0, by omega, rfl, rfl, hown1, hB1⟩
      case round =>
        obtain ⟨k, hkg, rfl, hall, hown, hB⟩ := hrel
        clear hown1 hgrow1 hB1
        by_cases hlt : k < len
        · have hltI : (k : Int) < (len : Int) := by omega
          have hkl : k < ss.length := by have := Hlen.out; omega
          have hc := HC.out wr hB k hlt
          have hbr : b < wr.heap.size := Nat.lt_of_lt_of_le hb hB.size
          have hcall := HF.out _ (getD_mem hkl) wr (HM.out.below (Nat.lt_of_lt_of_le HM.out.1 (Nat.le_refl _)) hB)
          have Hat := Lib.hid (fun hx => all_take hall hkl hx)
          have Hno := Lib.hid (fun hx => not_all (ok := okT) hkl hx)
          have Hmt := Lib.hid (map_take (val := idB) hkl)
          obtain ⟨x, hx⟩ : ∃ x, x = ss.getD k ByteArray.empty := ⟨_, rfl⟩
          rw [← hx] at hc hcall Hat Hno Hmt
          have Hcall := Lib.hid hcall
          have Hown := Lib.hid hown
          clear hx hcall hall hown
          cases hok : okT x with
          | true =>
            have hcall := Hcall.out
            rw [hok] at hcall
            simp only [reduceIte] at hcall
            have Hc := Lib.hid hcall
            have Hall := Lib.hid (Hat.out hok)
            clear hcall Hcall Hat Hno hok
            generalize idB x = y at *
            go_wp2_with fail
            refine Hc.out.mono ?_
            rintro e w2 ⟨rfl, hB2⟩
            have hb2 := hB.trans (hB2.mono hB.size)
            have hown2 := ownsRow_below Hown.out hB2
            clear hB2
            go_wp2_with (at_builtin; go_must (refine wpList_append_own _ rfl (.tmp 34) (.tmp 36) 22 rfl w.heap.size 9 i0 (.string ⟨#[]⟩) 1 16 Tryz.underlying22 hi hz0 hz1 hz2 rfl (by decide) _ _ _ rfl (hown2.alloc _) ⟨w2.heap.size, 0, none⟩ 1 1 [.string y] rfl rfl (cell_one_new _ _ _) (by intro u hu; simp at hu; subst hu; rfl) (by unfold maxLen; omega) (by omega) (by have := hb2.size; simp; omega) ?_); intro v3 w3 hown3 hgrow3 _; have hb3 := (hb2.alloc hb2.size _).grown hgrow3 (by have := hb2.size; simp; omega) (fun k' hk' => (hown2.lt k' hk').1); clear hown2 hgrow3 hB)
            go_roundg (gk - 1)
            case measure => omega
            case rel => exact ⟨k + 1, by omega, by go_num, Hall.out, by rw [Hmt.out]; exact hown3, hb3⟩
          | false =>
            have hcall := Hcall.out
            rw [hok] at hcall
            simp only [Bool.false_eq_true, reduceIte] at hcall
            have Hc := Lib.hid hcall
            have Hend := Lib.hid (show R = (noneB, 4) by rw [HR.out, joinR_no (Hno.out hok)])
            clear hcall Hcall Hat Hno hok Hmt
            go_wp2_with fail
            refine Hc.out.mono ?_
            rintro e w2 ⟨rfl, hB2⟩
            have hb2 := hB.trans (hB2.mono hB.size)
            clear hB2 hB
            go_wp2_with fail
            go_ret2
            exact ⟨by rw [Hend.out]; rfl, hb2⟩
        · obtain rfl : k = len := by omega
          have hkI : ¬ (k : Int) < (k : Int) := by omega
          have htk : ss.take k = ss := by rw [Hlen.out, List.take_length]
          rw [htk] at hall hown
          have Hend := Lib.hid (show R = (wrapB sep (ss.map idB), 0) by
            rw [HR.out, joinR_yes]
            rw [hall, Bool.and_true]
            cases ss with
            | nil => exact absurd Hlen.out h0
            | cons a r => rfl)
          have hLl : (ss.map idB).length = k := by rw [List.length_map, Hlen.out]
          have hLz := Hz.out
          obtain ⟨L, hL⟩ : ∃ L, L = ss.map idB := ⟨_, rfl⟩
          rw [← hL] at hown Hend hLl hLz
          clear htk hall hL HF HC
          have hjl := join_len L sep.data.toList
          rw [ba_len] at hjl
          rw [← hLl] at hown
          obtain ⟨g, cap2, rfl, hgb, hgl, hgc, hgm, hcl⟩ := row_cells hown (by omega)
          rw [hLl] at hgc hcl ⊢
          by_cases h1 : k = 1
          · have hc0 := hcl 0 (by omega)
            have Hw := Lib.hid (wrap_one (sep := sep) (L := L) (by omega))
            subst h1
            clear hown hcl hjl
            generalize L.getD 0 ByteArray.empty = x at *
            go_wp2_with fail
            go_ret2
            exact ⟨by rw [Hend.out, Hw.out]; rfl, hB⟩
          · have hk1 : ((k : Int) == 1) = false := by rw [beq_eq_false_iff_ne]; omega
            have hJ := Tryz.strings_Join g 0 cap2 L sep wr (fun j x hx => by
              have hj : j < k := by have := (List.getElem?_eq_some_iff.1 hx).1; omega
              rw [Nat.zero_add, hcl j hj]
              simp only [List.getD_eq_getElem?_getD, hx, Option.getD_some]) hgl (by omega) (by omega) (by rw [← hLl] at hLz; omega)
            rw [hLl] at hJ
            have HJ := Lib.hid hJ
            have Hw := Lib.hid (wrap_many (sep := sep) (L := L) (by omega))
            have hjz : (mkB (Lib.join (L.map (·.data.toList)) sep.data.toList)).size ≤ 1073741824 := by rw [mkB_size]; rw [← hLl] at hLz; omega
            obtain ⟨J, hJe⟩ : ∃ J, J = mkB (Lib.join (L.map (·.data.toList)) sep.data.toList) := ⟨_, rfl⟩
            rw [show (⟨(Lib.join (L.map (·.data.toList)) sep.data.toList).toArray⟩ : ByteArray) = J from hJe.symm] at HJ
            rw [← hJe] at Hw hjz
            clear hown hcl hjl hJ hJe
            go_wp2_with fail
            refine HJ.out.mono ?_
            rintro e w2 ⟨rfl, hB2⟩
            have hb2 := hB.trans (hB2.mono hB.size)
            have hj2 : ((⟨#[40]⟩ : ByteArray) ++ J).size ≤ 1073741825 := by
              rw [ByteArray.size_append]
              have : (⟨#[40]⟩ : ByteArray).size = 1 := rfl
              omega
            clear hB2 HJ
            go_wp2_with fail
            go_ret2
            exact ⟨by rw [Hend.out, Hw.out]; rfl, hb2⟩

theorem sums_id (l : List ByteArray) : sums (l.map idB) = sums l := by rw [show l.map idB = l from List.map_id' _]
theorem cutB_some (c : UInt8) (s : ByteArray) : (!(cutB c s).isEmpty) = true := by
  have := cutB_ne c s
  cases h : cutB c s with
  | nil => rw [h] at this; exact absurd this (by decide)
  | cons a r => rfl
theorem joinR_O (o : ByteArray) : joinR okT idB andS (cutB 44 o) = (if okO o then valO o else noneB, if okO o then 0 else 4) := by
  have h : okO o = (!(cutB 44 o).isEmpty && (cutB 44 o).all okT) := by rw [cutB_some]; rfl
  cases hk : okO o with
  | true => rw [joinR_yes (by rw [← h, hk])]; rfl
  | false => rw [joinR_no (by rw [← h, hk])]; rfl
theorem joinR_L (s : ByteArray) : joinR okO valO orS (wordsB s) = (if okL s then valL s else noneB, if okL s then 0 else 4) := by
  have h : okL s = (!(wordsB s).isEmpty && (wordsB s).all okO) := rfl
  cases hk : okL s with
  | true => rw [joinR_yes (by rw [← h, hk])]; rfl
  | false => rw [joinR_no (by rw [← h, hk])]; rfl
theorem joinR_Ls (l : List ByteArray) : joinR okL valL andS l = (if okLs l then valLs l else noneB, if okLs l then 0 else 4) := by
  have h : okLs l = (!l.isEmpty && l.all okL) := rfl
  cases hk : okLs l with
  | true => rw [joinR_yes (by rw [← h, hk])]; rfl
  | false => rw [joinR_no (by rw [← h, hk])]; rfl

set_option maxHeartbeats 400000 in
theorem option_any (o : ByteArray) (w : World) (hs : o.size ≤ 16777216) (hm : MaxAt w) :
    Calls Tryz.prog 81 #[.string o] w fun e w' => e = .returned (.tuple #[.string (if okO o then valO o else noneB), .int .i64 (if okO o then 0 else 4)]) ∧ Below w.heap.size w w' := by
  have hc := sums_cutB 44 o
  have HS := Lib.hid (split_own 44 o w (by omega) hm)
  have HJ := Lib.hid (fun v w1 (h1 : Below w.heap.size w w1) (hv : Strs w1 v (cutB 44 o)) => join_term andS v (cutB 44 o) w1 hv (hm.below hm.1 h1) (by rw [sums_id, andS_size]; omega) (by omega) (fun x hx w2 _ => term_any x w2 (by have := sums_mem _ x hx; omega)))
  rw [joinR_O] at HJ
  simp only at HJ
  generalize (if okO o = true then valO o else noneB) = x at *
  generalize (if okO o = true then (0 : Int) else 4) = c at *
  clear hm
  go_enter Tryz.func81, Tryz.ntmps81
  go_wp2_with fail
  refine HS.out.mono ?_
  rintro e w1 ⟨v, rfl, hown, hB⟩
  have hv := Strs.ofRow hown
  clear hown
  go_wp2_with fail
  refine (HJ.out v w1 hB hv).mono ?_
  rintro e w2 ⟨rfl, hB2⟩
  have hb2 := hB.trans (hB2.mono hB.size)
  clear hB hB2 hv
  go_wp2_with fail
  go_ret2
  exact ⟨rfl, hb2⟩

set_option maxHeartbeats 1000000 in
theorem join_option (sep : ByteArray) (v : Value) (ss : List ByteArray) (w : World) (hv : Strs w v ss) (hm : MaxAt w) (hz : sums (ss.map valO) + ss.length * sep.size ≤ 1073741824) (hl : ss.length ≤ 1073741824)
    (hf : ∀ x ∈ ss, ∀ w1, MaxAt w1 → Calls Tryz.prog 81 #[.string x] w1 fun e w' => e = .returned (.tuple #[.string (if okO x then valO x else noneB), .int .i64 (if okO x then 0 else 4)]) ∧ Below w1.heap.size w1 w') :
    Calls Tryz.prog 62 #[.string sep, v, .func (.func 81) #[] #[]] w fun e w' => e = .returned (.tuple #[.string (joinR okO valO sep ss).1, .int .i64 (joinR okO valO sep ss).2]) ∧ Below w.heap.size w w' := by
  obtain ⟨i0, hi, hz0, hz1, hz2⟩ := info_parts Tryz.info9
  rcases hv with ⟨⟨pz, cz, rfl⟩, rfl⟩ | ⟨b, off, cap, rfl, hcap, hmax, hb, hcell⟩
  · go_enter Tryz.func62, Tryz.ntmps62
    go_wp2_with fail
    go_ret2
    exact ⟨rfl, Below.refl _ _⟩
  · by_cases h0 : ss.length = 0
    · obtain rfl := List.eq_nil_of_length_eq_zero h0
      go_enter Tryz.func62, Tryz.ntmps62
      go_wp2_with fail
      go_ret2
      exact ⟨rfl, Below.refl _ _⟩
    · have hne : ((ss.length : Int) == 0) = false := by rw [beq_eq_false_iff_ne]; omega
      obtain ⟨R, hR⟩ : ∃ R, R = joinR okO valO sep ss := ⟨_, rfl⟩
      rw [← hR]
      have HR := Lib.hid hR
      obtain ⟨len, hlen⟩ : ∃ len, len = ss.length := ⟨_, rfl⟩
      rw [← hlen] at hcap hl hz hcell hne h0 ⊢
      have Hlen := Lib.hid hlen
      have Hz := Lib.hid hz
      have HF := Lib.hid hf
      have HM := Lib.hid hm
      have HC := Lib.hid (fun w1 (h1 : Below w.heap.size w w1) j (hj : j < len) => (h1.cell (p := ⟨b, off + j, none⟩) hb).trans (hcell j hj))
      unfold maxLen at hmax
      clear hlen hz hf hm hcell hR
      go_enter Tryz.func62, Tryz.ntmps62
      go_wp2_with (at_make; refine wpList_make_own _ rfl _ _ 22 rfl w.heap.size 9 i0 (.string ⟨#[]⟩) 1 Tryz.underlying22 hi hz0 hz1 .i64 .i64 _ len rfl rfl (by omega) (by rw [hz2]; omega) (by unfold maxLen; omega) (Nat.le_refl _) ?_; intro w1 hown1 hgrow1; have hB1 : Below w.heap.size w w1 := (Below.refl _ w).grown hgrow1 (Nat.le_refl _) (fun k h => by cases h))
      go_loopg [8, 10, 11, 12, 21] len (fun g ov _ _ _ iv wr => ∃ k : Nat, k + g = len ∧ iv = .int .i64 k ∧ (ss.take k).all okO = true ∧ wr.ownsRow w.heap.size 9 1 ov k (((ss.take k).map valO).map Value.string) ∧ Below w.heap.size w wr)
      case atStart => exact ⟨0, by omega, rfl, rfl, hown1, hB1⟩
      case round =>
        obtain ⟨k, hkg, rfl, hall, hown, hB⟩ := hrel
        clear hown1 hgrow1 hB1
        by_cases hlt : k < len
        · have hltI : (k : Int) < (len : Int) := by omega
          have hkl : k < ss.length := by have := Hlen.out; omega
          have hc := HC.out wr hB k hlt
          have hbr : b < wr.heap.size := Nat.lt_of_lt_of_le hb hB.size
          have hcall := HF.out _ (getD_mem hkl) wr (HM.out.below (Nat.lt_of_lt_of_le HM.out.1 (Nat.le_refl _)) hB)
          have Hat := Lib.hid (fun hx => all_take hall hkl hx)
          have Hno := Lib.hid (fun hx => not_all (ok := okO) hkl hx)
          have Hmt := Lib.hid (map_take (val := valO) hkl)
          obtain ⟨x, hx⟩ : ∃ x, x = ss.getD k ByteArray.empty := ⟨_, rfl⟩
          rw [← hx] at hc hcall Hat Hno Hmt
          have Hcall := Lib.hid hcall
          have Hown := Lib.hid hown
          clear hx hcall hall hown
          cases hok : okO x with
          | true =>
            have hcall := Hcall.out
            rw [hok] at hcall
            simp only [reduceIte] at hcall
            have Hc := Lib.hid hcall
            have Hall := Lib.hid (Hat.out hok)
            clear hcall Hcall Hat Hno hok
            generalize valO x = y at *
            go_wp2_with fail
            refine Hc.out.mono ?_
            rintro e w2 ⟨rfl, hB2⟩
            have hb2 := hB.trans (hB2.mono hB.size)
            have hown2 := ownsRow_below Hown.out hB2
            clear hB2
            go_wp2_with (at_builtin; go_must (refine wpList_append_own _ rfl (.tmp 34) (.tmp 36) 22 rfl w.heap.size 9 i0 (.string ⟨#[]⟩) 1 16 Tryz.underlying22 hi hz0 hz1 hz2 rfl (by decide) _ _ _ rfl (hown2.alloc _) ⟨w2.heap.size, 0, none⟩ 1 1 [.string y] rfl rfl (cell_one_new _ _ _) (by intro u hu; simp at hu; subst hu; rfl) (by unfold maxLen; omega) (by omega) (by have := hb2.size; simp; omega) ?_); intro v3 w3 hown3 hgrow3 _; have hb3 := (hb2.alloc hb2.size _).grown hgrow3 (by have := hb2.size; simp; omega) (fun k' hk' => (hown2.lt k' hk').1); clear hown2 hgrow3 hB)
            go_roundg (gk - 1)
            case measure => omega
            case rel => exact ⟨k + 1, by omega, by go_num, Hall.out, by rw [Hmt.out]; exact hown3, hb3⟩
          | false =>
            have hcall := Hcall.out
            rw [hok] at hcall
            simp only [Bool.false_eq_true, reduceIte] at hcall
            have Hc := Lib.hid hcall
            have Hend := Lib.hid (show R = (noneB, 4) by rw [HR.out, joinR_no (Hno.out hok)])
            clear hcall Hcall Hat Hno hok Hmt
            go_wp2_with fail
            refine Hc.out.mono ?_
            rintro e w2 ⟨rfl, hB2⟩
            have hb2 := hB.trans (hB2.mono hB.size)
            clear hB2 hB
            go_wp2_with fail
            go_ret2
            exact ⟨by rw [Hend.out]; rfl, hb2⟩
        · obtain rfl : k = len := by omega
          have hkI : ¬ (k : Int) < (k : Int) := by omega
          have htk : ss.take k = ss := by rw [Hlen.out, List.take_length]
          rw [htk] at hall hown
          have Hend := Lib.hid (show R = (wrapB sep (ss.map valO), 0) by
            rw [HR.out, joinR_yes]
            rw [hall, Bool.and_true]
            cases ss with
            | nil => exact absurd Hlen.out h0
            | cons a r => rfl)
          have hLl : (ss.map valO).length = k := by rw [List.length_map, Hlen.out]
          have hLz := Hz.out
          obtain ⟨L, hL⟩ : ∃ L, L = ss.map valO := ⟨_, rfl⟩
          rw [← hL] at hown Hend hLl hLz
          clear htk hall hL HF HC
          have hjl := join_len L sep.data.toList
          rw [ba_len] at hjl
          rw [← hLl] at hown
          obtain ⟨g, cap2, rfl, hgb, hgl, hgc, hgm, hcl⟩ := row_cells hown (by omega)
          rw [hLl] at hgc hcl ⊢
          by_cases h1 : k = 1
          · have hc0 := hcl 0 (by omega)
            have Hw := Lib.hid (wrap_one (sep := sep) (L := L) (by omega))
            subst h1
            clear hown hcl hjl
            generalize L.getD 0 ByteArray.empty = x at *
            go_wp2_with fail
            go_ret2
            exact ⟨by rw [Hend.out, Hw.out]; rfl, hB⟩
          · have hk1 : ((k : Int) == 1) = false := by rw [beq_eq_false_iff_ne]; omega
            have hJ := Tryz.strings_Join g 0 cap2 L sep wr (fun j x hx => by
              have hj : j < k := by have := (List.getElem?_eq_some_iff.1 hx).1; omega
              rw [Nat.zero_add, hcl j hj]
              simp only [List.getD_eq_getElem?_getD, hx, Option.getD_some]) hgl (by omega) (by omega) (by rw [← hLl] at hLz; omega)
            rw [hLl] at hJ
            have HJ := Lib.hid hJ
            have Hw := Lib.hid (wrap_many (sep := sep) (L := L) (by omega))
            have hjz : (mkB (Lib.join (L.map (·.data.toList)) sep.data.toList)).size ≤ 1073741824 := by rw [mkB_size]; rw [← hLl] at hLz; omega
            obtain ⟨J, hJe⟩ : ∃ J, J = mkB (Lib.join (L.map (·.data.toList)) sep.data.toList) := ⟨_, rfl⟩
            rw [show (⟨(Lib.join (L.map (·.data.toList)) sep.data.toList).toArray⟩ : ByteArray) = J from hJe.symm] at HJ
            rw [← hJe] at Hw hjz
            clear hown hcl hjl hJ hJe
            go_wp2_with fail
            refine HJ.out.mono ?_
            rintro e w2 ⟨rfl, hB2⟩
            have hb2 := hB.trans (hB2.mono hB.size)
            have hj2 : ((⟨#[40]⟩ : ByteArray) ++ J).size ≤ 1073741825 := by
              rw [ByteArray.size_append]
              have : (⟨#[40]⟩ : ByteArray).size = 1 := rfl
              omega
            clear hB2 HJ
            go_wp2_with fail
            go_ret2
            exact ⟨by rw [Hend.out, Hw.out]; rfl, hb2⟩

set_option maxHeartbeats 400000 in
theorem line_any (s : ByteArray) (w : World) (hs : s.size ≤ 4194304) (hm : MaxAt w) :
    Calls Tryz.prog 63 #[.string s] w fun e w' => e = .returned (.tuple #[.string (if okL s then valL s else noneB), .int .i64 (if okL s then 0 else 4)]) ∧ Below w.heap.size w w' := by
  have hc := sums_words s
  have h3 := sums_map valO 5 7 valO_size (wordsB s)
  have HS := Lib.hid (fields_any s w (by omega))
  have HJ := Lib.hid (fun v w1 (h1 : Below w.heap.size w w1) (hv : Strs w1 v (wordsB s)) => join_option orS v (wordsB s) w1 hv (hm.below hm.1 h1) (by rw [orS_size]; omega) (by omega) (fun x hx w2 h2 => option_any x w2 (by have := sums_mem _ x hx; omega) h2))
  rw [joinR_L] at HJ
  simp only at HJ
  generalize (if okL s = true then valL s else noneB) = x at *
  generalize (if okL s = true then (0 : Int) else 4) = c at *
  clear hm
  go_enter Tryz.func63, Tryz.ntmps63
  go_wp2_with fail
  refine HS.out.mono ?_
  rintro e w1 ⟨v, rfl, hown, hB⟩
  have hv := Strs.ofRow hown
  clear hown
  go_wp2_with fail
  refine (HJ.out v w1 hB hv).mono ?_
  rintro e w2 ⟨rfl, hB2⟩
  have hb2 := hB.trans (hB2.mono hB.size)
  clear hB hB2 hv
  go_wp2_with fail
  go_ret2
  exact ⟨rfl, hb2⟩

set_option maxHeartbeats 1000000 in
theorem join_line (sep : ByteArray) (v : Value) (ss : List ByteArray) (w : World) (hv : Strs w v ss) (hm : MaxAt w) (hz : sums (ss.map valL) + ss.length * sep.size ≤ 1073741824) (hl : ss.length ≤ 1073741824)
    (hf : ∀ x ∈ ss, ∀ w1, MaxAt w1 → Calls Tryz.prog 63 #[.string x] w1 fun e w' => e = .returned (.tuple #[.string (if okL x then valL x else noneB), .int .i64 (if okL x then 0 else 4)]) ∧ Below w1.heap.size w1 w') :
    Calls Tryz.prog 62 #[.string sep, v, .func (.func 63) #[] #[]] w fun e w' => e = .returned (.tuple #[.string (joinR okL valL sep ss).1, .int .i64 (joinR okL valL sep ss).2]) ∧ Below w.heap.size w w' := by
  obtain ⟨i0, hi, hz0, hz1, hz2⟩ := info_parts Tryz.info9
  rcases hv with ⟨⟨pz, cz, rfl⟩, rfl⟩ | ⟨b, off, cap, rfl, hcap, hmax, hb, hcell⟩
  · go_enter Tryz.func62, Tryz.ntmps62
    go_wp2_with fail
    go_ret2
    exact ⟨rfl, Below.refl _ _⟩
  · by_cases h0 : ss.length = 0
    · obtain rfl := List.eq_nil_of_length_eq_zero h0
      go_enter Tryz.func62, Tryz.ntmps62
      go_wp2_with fail
      go_ret2
      exact ⟨rfl, Below.refl _ _⟩
    · have hne : ((ss.length : Int) == 0) = false := by rw [beq_eq_false_iff_ne]; omega
      obtain ⟨R, hR⟩ : ∃ R, R = joinR okL valL sep ss := ⟨_, rfl⟩
      rw [← hR]
      have HR := Lib.hid hR
      obtain ⟨len, hlen⟩ : ∃ len, len = ss.length := ⟨_, rfl⟩
      rw [← hlen] at hcap hl hz hcell hne h0 ⊢
      have Hlen := Lib.hid hlen
      have Hz := Lib.hid hz
      have HF := Lib.hid hf
      have HM := Lib.hid hm
      have HC := Lib.hid (fun w1 (h1 : Below w.heap.size w w1) j (hj : j < len) => (h1.cell (p := ⟨b, off + j, none⟩) hb).trans (hcell j hj))
      unfold maxLen at hmax
      clear hlen hz hf hm hcell hR
      go_enter Tryz.func62, Tryz.ntmps62
      go_wp2_with (at_make; refine wpList_make_own _ rfl _ _ 22 rfl w.heap.size 9 i0 (.string ⟨#[]⟩) 1 Tryz.underlying22 hi hz0 hz1 .i64 .i64 _ len rfl rfl (by omega) (by rw [hz2]; omega) (by unfold maxLen; omega) (Nat.le_refl _) ?_; intro w1 hown1 hgrow1; have hB1 : Below w.heap.size w w1 := (Below.refl _ w).grown hgrow1 (Nat.le_refl _) (fun k h => by cases h))
      go_loopg [8, 10, 11, 12, 21] len (fun g ov _ _ _ iv wr => ∃ k : Nat, k + g = len ∧ iv = .int .i64 k ∧ (ss.take k).all okL = true ∧ wr.ownsRow w.heap.size 9 1 ov k (((ss.take k).map valL).map Value.string) ∧ Below w.heap.size w wr)
      case atStart => exact ⟨0, by omega, rfl, rfl, hown1, hB1⟩
      case round =>
        obtain ⟨k, hkg, rfl, hall, hown, hB⟩ := hrel
        clear hown1 hgrow1 hB1
        by_cases hlt : k < len
        · have hltI : (k : Int) < (len : Int) := by omega
          have hkl : k < ss.length := by have := Hlen.out; omega
          have hc := HC.out wr hB k hlt
          have hbr : b < wr.heap.size := Nat.lt_of_lt_of_le hb hB.size
          have hcall := HF.out _ (getD_mem hkl) wr (HM.out.below (Nat.lt_of_lt_of_le HM.out.1 (Nat.le_refl _)) hB)
          have Hat := Lib.hid (fun hx => all_take hall hkl hx)
          have Hno := Lib.hid (fun hx => not_all (ok := okL) hkl hx)
          have Hmt := Lib.hid (map_take (val := valL) hkl)
          obtain ⟨x, hx⟩ : ∃ x, x = ss.getD k ByteArray.empty := ⟨_, rfl⟩
          rw [← hx] at hc hcall Hat Hno Hmt
          have Hcall := Lib.hid hcall
          have Hown := Lib.hid hown
          clear hx hcall hall hown
          cases hok : okL x with
          | true =>
            have hcall := Hcall.out
            rw [hok] at hcall
            simp only [reduceIte] at hcall
            have Hc := Lib.hid hcall
            have Hall := Lib.hid (Hat.out hok)
            clear hcall Hcall Hat Hno hok
            generalize valL x = y at *
            go_wp2_with fail
            refine Hc.out.mono ?_
            rintro e w2 ⟨rfl, hB2⟩
            have hb2 := hB.trans (hB2.mono hB.size)
            have hown2 := ownsRow_below Hown.out hB2
            clear hB2
            go_wp2_with (at_builtin; go_must (refine wpList_append_own _ rfl (.tmp 34) (.tmp 36) 22 rfl w.heap.size 9 i0 (.string ⟨#[]⟩) 1 16 Tryz.underlying22 hi hz0 hz1 hz2 rfl (by decide) _ _ _ rfl (hown2.alloc _) ⟨w2.heap.size, 0, none⟩ 1 1 [.string y] rfl rfl (cell_one_new _ _ _) (by intro u hu; simp at hu; subst hu; rfl) (by unfold maxLen; omega) (by omega) (by have := hb2.size; simp; omega) ?_); intro v3 w3 hown3 hgrow3 _; have hb3 := (hb2.alloc hb2.size _).grown hgrow3 (by have := hb2.size; simp; omega) (fun k' hk' => (hown2.lt k' hk').1); clear hown2 hgrow3 hB)
            go_roundg (gk - 1)
            case measure => omega
            case rel => exact ⟨k + 1, by omega, by go_num, Hall.out, by rw [Hmt.out]; exact hown3, hb3⟩
          | false =>
            have hcall := Hcall.out
            rw [hok] at hcall
            simp only [Bool.false_eq_true, reduceIte] at hcall
            have Hc := Lib.hid hcall
            have Hend := Lib.hid (show R = (noneB, 4) by rw [HR.out, joinR_no (Hno.out hok)])
            clear hcall Hcall Hat Hno hok Hmt
            go_wp2_with fail
            refine Hc.out.mono ?_
            rintro e w2 ⟨rfl, hB2⟩
            have hb2 := hB.trans (hB2.mono hB.size)
            clear hB2 hB
            go_wp2_with fail
            go_ret2
            exact ⟨by rw [Hend.out]; rfl, hb2⟩
        · obtain rfl : k = len := by omega
          have hkI : ¬ (k : Int) < (k : Int) := by omega
          have htk : ss.take k = ss := by rw [Hlen.out, List.take_length]
          rw [htk] at hall hown
          have Hend := Lib.hid (show R = (wrapB sep (ss.map valL), 0) by
            rw [HR.out, joinR_yes]
            rw [hall, Bool.and_true]
            cases ss with
            | nil => exact absurd Hlen.out h0
            | cons a r => rfl)
          have hLl : (ss.map valL).length = k := by rw [List.length_map, Hlen.out]
          have hLz := Hz.out
          obtain ⟨L, hL⟩ : ∃ L, L = ss.map valL := ⟨_, rfl⟩
          rw [← hL] at hown Hend hLl hLz
          clear htk hall hL HF HC
          have hjl := join_len L sep.data.toList
          rw [ba_len] at hjl
          rw [← hLl] at hown
          obtain ⟨g, cap2, rfl, hgb, hgl, hgc, hgm, hcl⟩ := row_cells hown (by omega)
          rw [hLl] at hgc hcl ⊢
          by_cases h1 : k = 1
          · have hc0 := hcl 0 (by omega)
            have Hw := Lib.hid (wrap_one (sep := sep) (L := L) (by omega))
            subst h1
            clear hown hcl hjl
            generalize L.getD 0 ByteArray.empty = x at *
            go_wp2_with fail
            go_ret2
            exact ⟨by rw [Hend.out, Hw.out]; rfl, hB⟩
          · have hk1 : ((k : Int) == 1) = false := by rw [beq_eq_false_iff_ne]; omega
            have hJ := Tryz.strings_Join g 0 cap2 L sep wr (fun j x hx => by
              have hj : j < k := by have := (List.getElem?_eq_some_iff.1 hx).1; omega
              rw [Nat.zero_add, hcl j hj]
              simp only [List.getD_eq_getElem?_getD, hx, Option.getD_some]) hgl (by omega) (by omega) (by rw [← hLl] at hLz; omega)
            rw [hLl] at hJ
            have HJ := Lib.hid hJ
            have Hw := Lib.hid (wrap_many (sep := sep) (L := L) (by omega))
            have hjz : (mkB (Lib.join (L.map (·.data.toList)) sep.data.toList)).size ≤ 1073741824 := by rw [mkB_size]; rw [← hLl] at hLz; omega
            obtain ⟨J, hJe⟩ : ∃ J, J = mkB (Lib.join (L.map (·.data.toList)) sep.data.toList) := ⟨_, rfl⟩
            rw [show (⟨(Lib.join (L.map (·.data.toList)) sep.data.toList).toArray⟩ : ByteArray) = J from hJe.symm] at HJ
            rw [← hJe] at Hw hjz
            clear hown hcl hjl hJ hJe
            go_wp2_with fail
            refine HJ.out.mono ?_
            rintro e w2 ⟨rfl, hB2⟩
            have hb2 := hB.trans (hB2.mono hB.size)
            have hj2 : ((⟨#[40]⟩ : ByteArray) ++ J).size ≤ 1073741825 := by
              rw [ByteArray.size_append]
              have : (⟨#[40]⟩ : ByteArray).size = 1 := rfl
              omega
            clear hB2 HJ
            go_wp2_with fail
            go_ret2
            exact ⟨by rw [Hend.out, Hw.out]; rfl, hb2⟩

set_option maxHeartbeats 400000 in
theorem lines_any (v : Value) (l : List ByteArray) (w : World) (hv : Strs w v l) (hs : sums l ≤ 4194304) (hl : l.length ≤ 4194304) (hm : MaxAt w) :
    Calls Tryz.prog 47 #[v] w fun e w' => e = .returned (.tuple #[.string (if okLs l then valLs l else noneB), .int .i64 (if okLs l then 0 else 4)]) ∧ Below w.heap.size w w' := by
  have h3 := sums_map valL 16 2 valL_size l
  have HJ := Lib.hid (join_line andS v l w hv hm (by rw [andS_size]; omega) (by omega) (fun x hx w2 h2 => line_any x w2 (by have := sums_mem _ x hx; omega) h2))
  rw [joinR_Ls] at HJ
  simp only at HJ
  obtain ⟨p, cap, rfl, _⟩ := strs_shape hv
  generalize (if okLs l = true then valLs l else noneB) = x at *
  generalize (if okLs l = true then (0 : Int) else 4) = c at *
  clear hm hv
  go_enter Tryz.func47, Tryz.ntmps47
  go_wp2_with fail
  refine HJ.out.mono ?_
  rintro e w2 ⟨rfl, hB2⟩
  go_wp2_with fail
  go_ret2
  exact ⟨rfl, hB2⟩
end Go.Proofs.YtpibehfmbmincaaGreatDoor
