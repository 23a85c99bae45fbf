/- Walks: strings.Split, FieldsFunc, and the document's Cut. -/
import Derived.Test.YtkmachhfibcdlaaDoorQm
import Derived.Test.YtkmachhfibcdlaaDoorIa
import Derived.OwnWalk
import Derived.Deep.AppendLies
import Derived.Laws.MakeOwn
import Derived.Laws.AppendOwn
namespace Go.Proofs.YtkmachhfibcdlaaDoor
set_option linter.unusedVariables false
set_option linter.unusedSimpArgs false
open Go.ChangeShapes Go.WideShapes Go.ChangeAt Go.RowKit

theorem ownsRow_below {w w' : World} {base : Nat} {e : TypeId} {size : Nat} {v : Value} {n : Nat} {xs : List Value} (h : w.ownsRow base e size v n xs) (hB : Below w.heap.size w w') : w'.ownsRow base e size v n xs :=
  h.kept (row := none) ⟨hB.os, hB.tape, hB.output, hB.size, fun k hk _ => hB.block k hk⟩ (by cases v.ownBlock <;> simp)
theorem Tryd.info9 : (Tryd.prog.info? 9).map (fun i => (i.zero, i.size, i.bytes)) = some (some (.string ⟨#[]⟩), 1, 16) := by kernel_rfl

theorem drop_cons (s : ByteArray) (i : Nat) (h : i < s.size) : s.data.toList.drop i = s[i] :: s.data.toList.drop (i + 1) := by
  have hl : i < s.data.toList.length := by rw [ba_len]; exact h
  rw [← List.getElem_cons_drop (h := hl)]; rfl
theorem take_next (s : ByteArray) (f i : Nat) (h : i < s.size) (hf : f ≤ i) : (s.data.toList.drop f).take (i + 1 - f) = (s.data.toList.drop f).take (i - f) ++ [s[i]] := by
  have hl : i - f < (s.data.toList.drop f).length := by rw [List.length_drop, ba_len]; omega
  rw [show i + 1 - f = (i - f) + 1 by omega, List.take_succ_eq_append_getElem hl, List.getElem_drop]
  congr 2
  show _ = s.data[i]
  simp [show f + (i - f) = i by omega]

/-- Behind the pieces 'acc', at place i, one having begun at f. -/
def CutAt (c : UInt8) (s : ByteArray) (acc : List (List UInt8)) (f i : Nat) : Prop :=
  (f ≤ i ∧ i ≤ s.size ∧ cuts c [] s.data.toList = acc ++ cuts c ((s.data.toList.drop f).take (i - f)) (s.data.toList.drop i)) ∨ (i = s.size + 1 ∧ acc = cuts c [] s.data.toList)

theorem CutAt.start (c : UInt8) (s : ByteArray) : CutAt c s [] 0 0 := .inl ⟨by omega, by omega, by simp⟩
theorem CutAt.hit {c : UInt8} {s : ByteArray} {acc : List (List UInt8)} {f i : Nat} (h : CutAt c s acc f i) (hi : i < s.size) (hc : s[i] = c) : CutAt c s (acc ++ [(s.data.toList.drop f).take (i - f)]) (i + 1) (i + 1) := by
  rcases h with ⟨h1, h2, h3⟩ | ⟨h1, h2⟩
  · refine .inl ⟨by omega, by omega, ?_⟩
    rw [h3, drop_cons s i hi, hc, cuts_cons, if_pos rfl]
    simp
  · omega
theorem CutAt.miss {c : UInt8} {s : ByteArray} {acc : List (List UInt8)} {f i : Nat} (h : CutAt c s acc f i) (hi : i < s.size) (hc : s[i] ≠ c) : CutAt c s acc f (i + 1) := by
  rcases h with ⟨h1, h2, h3⟩ | ⟨h1, h2⟩
  · refine .inl ⟨by omega, by omega, ?_⟩
    rw [h3, drop_cons s i hi, cuts_cons, if_neg hc, take_next s f i hi h1]
  · omega
theorem CutAt.last {c : UInt8} {s : ByteArray} {acc : List (List UInt8)} {f : Nat} (h : CutAt c s acc f s.size) : CutAt c s (acc ++ [(s.data.toList.drop f).take (s.size - f)]) (s.size + 1) (s.size + 1) := by
  rcases h with ⟨h1, h2, h3⟩ | ⟨h1, h2⟩
  · refine .inr ⟨rfl, ?_⟩
    rw [h3, show s.data.toList.drop s.size = [] from List.drop_eq_nil_of_le (by rw [ba_len]; omega)]
    rfl
  · omega
theorem CutAt.f_le {c : UInt8} {s : ByteArray} {acc : List (List UInt8)} {f i : Nat} (h : CutAt c s acc f i) (hi : i ≤ s.size) : f ≤ i := by
  rcases h with ⟨h1, h2, h3⟩ | ⟨h1, h2⟩ <;> omega
theorem extract_mk (s : ByteArray) (f i : Nat) : s.extract f i = mkB ((s.data.toList.drop f).take (i - f)) := by
  apply ba_ext; rw [Lib.extract_data, mkB_toList]

def cnt : List ByteArray → Nat | [] => 0 | x :: r => x.size + 1 + cnt r
theorem cnt_append (a b : List ByteArray) : cnt (a ++ b) = cnt a + cnt b := by
  induction a with
  | nil => simp [cnt]
  | cons x r ih => simp [cnt, ih]; omega
theorem cuts_cnt (c : UInt8) (l : List UInt8) : ∀ cur, cnt ((cuts c cur l).map mkB) = cur.length + l.length + 1 := by
  induction l with
  | nil => intro cur; simp [cuts, cnt, mkB_size]
  | cons x r ih =>
    intro cur
    rw [cuts_cons]
    split
    · rw [List.map_cons, cnt, ih, mkB_size]; simp; omega
    · rw [ih]; simp; omega
theorem cutB_cnt (c : UInt8) (s : ByteArray) : cnt (cutB c s) = s.size + 1 := by
  unfold cutB; rw [cuts_cnt, ba_len]; simp
theorem cnt_len (L : List ByteArray) : L.length ≤ cnt L := by
  induction L with
  | nil => simp
  | cons x r ih => simp [cnt]; omega
theorem cnt_take (L : List ByteArray) (k : Nat) (h : k < L.length) : cnt (L.take (k + 1)) = cnt (L.take k) + ((L.getD k ByteArray.empty).size + 1) := by
  rw [List.take_succ_eq_append_getElem h, cnt_append]
  simp [cnt, List.getD, h]
theorem cnt_take_le (L : List ByteArray) (k : Nat) : cnt (L.take k) ≤ cnt L := by
  conv => rhs; rw [← List.take_append_drop k L]
  rw [cnt_append]; omega

theorem cutB_each (c : UInt8) (s : ByteArray) (k : Nat) (h : k < (cutB c s).length) : ((cutB c s).getD k ByteArray.empty).size ≤ s.size := by
  have h1 := cnt_take (cutB c s) k h
  have h2 := cnt_take_le (cutB c s) (k + 1)
  rw [cutB_cnt] at h2
  omega
theorem cutB_ne (c : UInt8) (s : ByteArray) : 0 < (cutB c s).length := by
  unfold cutB
  rw [List.length_map]
  exact List.length_pos_iff.2 (cuts_ne c _ _)

theorem row_of_alloc (L : List ByteArray) (w : World) (hm : L.length ≤ maxLen) : (w.alloc (.cells (L.map Value.string).toArray 9)).ownsRow w.heap.size 9 1 (.slice (some ⟨w.heap.size, 0, none⟩) L.length L.length) L.length (L.map Value.string) := by
  refine ⟨by simp, .inr ⟨w.heap.size, L.length, (L.map Value.string).toArray, rfl, Nat.le_refl _, ?_, Nat.le_refl _, hm, by simp, by rw [Nat.mul_one]; exact List.take_of_length_le (by simp)⟩⟩
  show (w.heap.push _)[w.heap.size]? = _
  simp
/-- The bytes of texts, all together. -/
def sums : List ByteArray → Nat | [] => 0 | x :: r => x.size + sums r
theorem sums_cuts (c : UInt8) (l : List UInt8) : ∀ cur, sums ((cuts c cur l).map mkB) + (cuts c cur l).length = cur.length + l.length + 1 := by
  induction l with
  | nil => intro cur; simp [cuts, sums, mkB_size]
  | cons x r ih =>
    intro cur
    unfold cuts
    split
    · have := ih []
      simp only [List.map_cons, sums, mkB_size, List.length_cons, List.length_nil] at this ⊢
      omega
    · have := ih (cur ++ [x])
      simp only [List.length_append, List.length_cons, List.length_nil] at this ⊢
      omega
theorem sums_cutB (c : UInt8) (s : ByteArray) : sums (cutB c s) + (cutB c s).length = s.size + 1 := by
  have := sums_cuts c s.data.toList []
  rw [ba_len] at this
  unfold cutB
  rw [List.length_map]
  simpa using this
theorem flush_sums (cur : List UInt8) (r : List (List UInt8)) : sums ((flush cur r).map mkB) = cur.length + sums (r.map mkB) ∧ (flush cur r).length ≤ cur.length + r.length := by
  cases cur with
  | nil => simp [flush_nil]
  | cons a l =>
    rw [flush_ne (by simp)]
    refine ⟨?_, ?_⟩
    · show (mkB (a :: l)).size + sums (r.map mkB) = _
      rw [mkB_size]
    · show r.length + 1 ≤ (l.length + 1) + r.length
      omega
theorem sums_wF : ∀ (l cur : List UInt8), sums ((wF l cur).map mkB) ≤ cur.length + l.length ∧ (wF l cur).length ≤ cur.length + l.length
  | [], cur => by
    rw [wF_nil]
    obtain ⟨h1, h2⟩ := flush_sums cur []
    have e0 : sums (([] : List (List UInt8)).map mkB) = 0 := rfl
    have e1 : ([] : List (List UInt8)).length = 0 := rfl
    have e2 : ([] : List UInt8).length = 0 := rfl
    rw [e0] at h1
    rw [e1] at h2
    rw [e2]
    exact ⟨by omega, by omega⟩
  | b :: r, cur => by
    cases hb : blank b with
    | true =>
      rw [wF_yes hb]
      have h1 := flush_sums cur (wF r [])
      have h2 := sums_wF r []
      simp only [List.length_nil, List.length_cons] at h2 ⊢
      omega
    | false =>
      rw [wF_no hb]
      have h2 := sums_wF r (cur ++ [b])
      simp only [List.length_append, List.length_cons, List.length_nil] at h2 ⊢
      omega
theorem sums_words (s : ByteArray) : sums (wordsB s) ≤ s.size ∧ (wordsB s).length ≤ s.size := by
  have := sums_wF s.data.toList []
  rw [ba_len] at this
  unfold wordsB
  rw [List.length_map]
  simpa using this
/-- The library's number, whatever it is. -/
def MaxAt (w : World) : Prop := 0 < w.heap.size ∧ ∃ m : Int, w.cell? ⟨0, 0, none⟩ = some (.int .i64 m)
theorem MaxAt.below {w w' : World} {n : Nat} (h : MaxAt w) (hn : 0 < n) (hB : Below n w w') : MaxAt w' := by
  obtain ⟨h1, m, h2⟩ := h
  exact ⟨Nat.lt_of_lt_of_le h1 hB.size, m, (hB.cell (p := ⟨0, 0, none⟩) hn).trans h2⟩

/-- What stands between the signs c. -/
theorem split_own (c : UInt8) (s : ByteArray) (w : World) (hs : s.size ≤ 1073741824) (hm : MaxAt w) :
    Calls Tryd.prog 11 #[.string s, .string ⟨#[c]⟩] w fun e w' => ∃ v, e = .returned v ∧ w'.ownsRow w.heap.size 9 1 v (cutB c s).length ((cutB c s).map Value.string) ∧ Below w.heap.size w w' := by
  obtain ⟨_, m, hm⟩ := hm
  refine (Tryd.strings_Split s (mkB [c]) m w (by omega) hm (by rw [mkB_size]; exact Nat.le_refl 1)).mono ?_
  rintro e w' ⟨rfl, rfl⟩
  rw [splitB_cut, ← cutB_len]
  have hl := sums_cutB c s
  exact ⟨_, rfl, row_of_alloc _ _ (by unfold maxLen; omega), (Below.refl _ w).alloc (Nat.le_refl _) _⟩

theorem pred_any (x : Nat) (w : World) : Calls Tryd.prog 14 #[.int .i32 (x : Int)] w fun e w' => e = .returned (.bool (pw x)) ∧ w = w' := by
  have hor : pw x = ((x == 32) || (x == 9) || (x == 13)) := rfl
  have e1 : ((x : Int) == 32) = (x == 32) := by rw [Bool.eq_iff_iff, beq_iff_eq, beq_iff_eq]; omega
  have e2 : ((x : Int) == 9) = (x == 9) := by rw [Bool.eq_iff_iff, beq_iff_eq, beq_iff_eq]; omega
  have e3 : ((x : Int) == 13) = (x == 13) := by rw [Bool.eq_iff_iff, beq_iff_eq, beq_iff_eq]; omega
  rw [hor]
  clear hor
  generalize (x == 32) = b1 at *
  generalize (x == 9) = b2 at *
  generalize (x == 13) = b3 at *
  cases b1
  · cases b2
    · go_enter Tryd.func14, Tryd.ntmps14
      go_wp2_with fail
      go_ret
      exact ⟨rfl, rfl⟩
    · go_enter Tryd.func14, Tryd.ntmps14
      go_wp2_with fail
      go_ret
      exact ⟨rfl, rfl⟩
  · go_enter Tryd.func14, Tryd.ntmps14
    go_wp2_with fail
    go_ret
    exact ⟨rfl, rfl⟩
theorem fields_any (s : ByteArray) (w : World) (hs : s.size ≤ 1073741824) :
    Calls Tryd.prog 13 #[.string s, .func (.func 14) #[] #[]] w fun e w' => ∃ v, e = .returned v ∧ w'.ownsRow w.heap.size 9 1 v (wordsB s).length ((wordsB s).map Value.string) ∧ Below w.heap.size w w' := by
  have h := Tryd.strings_FieldsFunc_runes 14 #[] (fun args w => by
    simp [callFunc]
    rw [if_neg (by decide +kernel), if_neg (by unfold Tryd.f14; simp)]) pw s w (by omega) (fun W x _ _ => (pred_any x W).mono fun e w' h => ⟨h.1, 0, h.2.symm⟩)
  rw [fields_words] at h
  refine h.mono ?_
  rintro e w' ⟨A, rfl, _, hown, hB⟩
  exact ⟨_, rfl, hown, hB⟩

set_option maxHeartbeats 1000000 in
theorem rcut_any (s : ByteArray) (c : UInt8) (w : World) (hs : s.size ≤ 1073741824) :
    Calls Tryd.prog 7 #[.string s, .int .u8 (c.toNat : Int)] w fun e w' => ∃ v, e = .returned v ∧ w'.ownsRow w.heap.size 9 1 v (cutB c s).length ((cutB c s).map Value.string) ∧ Below w.heap.size w w' := by
  obtain ⟨i0, hi, hz0, hz1, hz2⟩ := info_parts Tryd.info9
  go_enter Tryd.func7, Tryd.ntmps7
  go_wp2_with fail
  go_loopg [5, 6, 7] (s.size + 1) (fun g ov fv iv wr => ∃ (i f : Nat) (acc : List (List UInt8)), i + g = s.size + 1 ∧ iv = .int .i64 i ∧ fv = .int .i64 f ∧ acc.length ≤ i ∧ CutAt c s acc f i ∧ wr.ownsRow w.heap.size 9 1 ov acc.length ((acc.map mkB).map Value.string) ∧ Below w.heap.size w wr)
  case atStart => exact ⟨0, 0, [], by omega, rfl, rfl, by simp, CutAt.start _ _, World.ownsRow_nil _ _ _ _, Below.refl _ _⟩
  case round =>
    obtain ⟨i, f, acc, hig, rfl, rfl, hal, hcut, hown, hB⟩ := hrel
    have HC := Lib.hid hcut
    have hBs := hB.size
    clear hcut
    by_cases hle : i ≤ s.size
    · have hf := HC.out.f_le hle
      have hfI : (f : Int) ≤ (i : Int) := by omega
      have hxe := extract_mk s f i
      have Hxe := Lib.hid hxe
      clear hxe
      by_cases hend : i = s.size
      · subst hend
        have h1 : ((s.size : Int) == (s.size : Int)) = true := by simp
        have hl := HC.out.last
        have HL := Lib.hid hl
        clear hl
        go_wp2_with (at_builtin; go_must (refine wpList_append_own _ rfl (.tmp 25) (.tmp 30) 23 rfl w.heap.size 9 i0 (.string ⟨#[]⟩) 1 16 Tryd.underlying23 hi hz0 hz1 hz2 rfl (by decide) _ _ _ rfl (hown.alloc _) ⟨wr.heap.size, 0, none⟩ 1 1 [.string (s.extract f s.size)] rfl rfl (cell_one_new _ _ _) (by intro u hu; simp at hu; subst hu; rfl) (by unfold maxLen; omega) (by omega) (by simp; omega) ?_); intro v2 w2 hown2 hgrow2 _)
        have hB2 := (hB.alloc hBs (Obj.cells #[Value.string (s.extract f s.size)] 9)).grown hgrow2 (by simp; omega) (fun k hk => (hown.lt k hk).1)
        rw [Hxe.out, show (acc.map mkB).map Value.string ++ [Value.string (mkB ((s.data.toList.drop f).take (s.size - f)))] = ((acc ++ [(s.data.toList.drop f).take (s.size - f)]).map mkB).map Value.string by simp] at hown2
        go_roundg (gk - 1)
        case measure => omega
        case rel => exact ⟨s.size + 1, s.size + 1, acc ++ [(s.data.toList.drop f).take (s.size - f)], by omega, by go_num, by go_num, by simp; omega, HL.out, by simpa using hown2, hB2⟩
      · have hlt : i < s.size := by omega
        have hltI : (i : Int) < (s.size : Int) := by omega
        have h1 : ((i : Int) == (s.size : Int)) = false := by simp; omega
        by_cases hc : s[i]'hlt = c
        · have h2 : (((s[i]'hlt).toNat : Int) == (c.toNat : Int)) = true := by rw [hc]; simp
          have hl := HC.out.hit hlt hc
          have HL := Lib.hid hl
          clear hl hc
          go_wp2_with (at_builtin; go_must (refine wpList_append_own _ rfl (.tmp 25) (.tmp 30) 23 rfl w.heap.size 9 i0 (.string ⟨#[]⟩) 1 16 Tryd.underlying23 hi hz0 hz1 hz2 rfl (by decide) _ _ _ rfl (hown.alloc _) ⟨wr.heap.size, 0, none⟩ 1 1 [.string (s.extract f i)] rfl rfl (cell_one_new _ _ _) (by intro u hu; simp at hu; subst hu; rfl) (by unfold maxLen; omega) (by omega) (by simp; omega) ?_); intro v2 w2 hown2 hgrow2 _)
          have hB2 := (hB.alloc hBs (Obj.cells #[Value.string (s.extract f i)] 9)).grown hgrow2 (by simp; omega) (fun k hk => (hown.lt k hk).1)
          rw [Hxe.out, show (acc.map mkB).map Value.string ++ [Value.string (mkB ((s.data.toList.drop f).take (i - f)))] = ((acc ++ [(s.data.toList.drop f).take (i - f)]).map mkB).map Value.string by simp] at hown2
          go_roundg (gk - 1)
          case measure => omega
          case rel => exact ⟨i + 1, i + 1, acc ++ [(s.data.toList.drop f).take (i - f)], by omega, by go_num, by go_num, by simp; omega, HL.out, by simpa using hown2, hB2⟩
        · have h2 : (((s[i]'hlt).toNat : Int) == (c.toNat : Int)) = false := by
            rw [beq_eq_false_iff_ne]; intro e; exact hc (UInt8.toNat_inj.1 (by omega))
          have hl := HC.out.miss hlt hc
          have HL := Lib.hid hl
          clear hl hc
          go_wp2_with fail
          go_roundg (gk - 1)
          case measure => omega
          case rel => exact ⟨i + 1, f, acc, by omega, by go_num, by go_num, by omega, HL.out, hown, hB⟩
    · have hd : acc = cuts c [] s.data.toList := by
        rcases HC.out with ⟨_, h2, _⟩ | ⟨_, h2⟩
        · omega
        · exact h2
      have Hd := Lib.hid hd
      clear hd
      go_wp2_with fail
      go_ret
      exact ⟨_, rfl, by unfold cutB; rw [← Hd.out, List.length_map]; exact hown, hB⟩

end Go.Proofs.YtkmachhfibcdlaaDoor
