/- Walks: texts are cut; words; whether a list has one. -/
import Derived.Test.YtdhaanaenklleaaDoorProg
import Derived.Test.YtdhaanaenklleaaDoorMa
import Derived.Test.YtdhaanaenklleaaDoorKt
import Derived.Test.YtdhaanaenklleaaDoorKq
import Derived.WalkKit
import Derived.ProofKit
import Derived.OpenShut
import Derived.WalkSpells
import Derived.WalkLawsBesides
import Derived.Below
import Derived.Deep.DeepFit
import Derived.RegionTactic
import Derived.ChangeAlike
import Derived.Deep.QuietTactic
import Derived.Deep.LoopGhost
import Derived.BigQuiet
import Derived.Laws.MakeOwn
import Derived.Laws.AppendOwn
import Derived.Deep.DeepMust
import Derived.Maps.AppendAt
namespace Go.Proofs.YtdhaanaenklleaaDoor
set_option linter.unusedVariables false
open Go.ChangeShapes Go.WideShapes Go.ChangeAt Go.RowKit

theorem ownsRow_below {w w' : World} {base : Nat} {e : TypeId} {size : Nat} {v : Value} {n : Nat} {xs : List Value} (h : w.ownsRow base e size v n xs) (hB : Below w.heap.size w w') : w'.ownsRow base e size v n xs :=
  h.kept (row := none) ⟨hB.os, hB.tape, hB.output, hB.size, fun k hk _ => hB.block k hk⟩ (by cases v.ownBlock <;> simp)
theorem Tryd.info9 : (Tryd.prog.info? 9).map (fun i => (i.zero, i.size, i.bytes)) = some (some (.string ⟨#[]⟩), 1, 16) := by kernel_rfl

theorem drop_cons (s : ByteArray) (i : Nat) (h : i < s.size) : s.data.toList.drop i = s[i] :: s.data.toList.drop (i + 1) := by
  have hl : i < s.data.toList.length := by rw [ba_len]; exact h
  rw [← List.getElem_cons_drop (h := hl)]; rfl
theorem take_next (s : ByteArray) (f i : Nat) (h : i < s.size) (hf : f ≤ i) : (s.data.toList.drop f).take (i + 1 - f) = (s.data.toList.drop f).take (i - f) ++ [s[i]] := by
  have hl : i - f < (s.data.toList.drop f).length := by rw [List.length_drop, ba_len]; omega
  rw [show i + 1 - f = (i - f) + 1 by omega, List.take_succ_eq_append_getElem hl, List.getElem_drop]
  congr 2
  show _ = s.data[i]
  simp [show f + (i - f) = i by omega]

/-- Behind the pieces 'acc', at place i, one having begun at f. -/
def CutAt (c : UInt8) (s : ByteArray) (acc : List (List UInt8)) (f i : Nat) : Prop :=
  (f ≤ i ∧ i ≤ s.size ∧ cuts c [] s.data.toList = acc ++ cuts c ((s.data.toList.drop f).take (i - f)) (s.data.toList.drop i)) ∨ (i = s.size + 1 ∧ acc = cuts c [] s.data.toList)

theorem CutAt.start (c : UInt8) (s : ByteArray) : CutAt c s [] 0 0 := .inl ⟨by omega, by omega, by simp⟩
theorem CutAt.hit {c : UInt8} {s : ByteArray} {acc : List (List UInt8)} {f i : Nat} (h : CutAt c s acc f i) (hi : i < s.size) (hc : s[i] = c) : CutAt c s (acc ++ [(s.data.toList.drop f).take (i - f)]) (i + 1) (i + 1) := by
  rcases h with ⟨h1, h2, h3⟩ | ⟨h1, h2⟩
  · refine .inl ⟨by omega, by omega, ?_⟩
    rw [h3, drop_cons s i hi, hc, cuts_cons, if_pos rfl]
    simp
  · omega
theorem CutAt.miss {c : UInt8} {s : ByteArray} {acc : List (List UInt8)} {f i : Nat} (h : CutAt c s acc f i) (hi : i < s.size) (hc : s[i] ≠ c) : CutAt c s acc f (i + 1) := by
  rcases h with ⟨h1, h2, h3⟩ | ⟨h1, h2⟩
  · refine .inl ⟨by omega, by omega, ?_⟩
    rw [h3, drop_cons s i hi, cuts_cons, if_neg hc, take_next s f i hi h1]
  · omega
theorem CutAt.last {c : UInt8} {s : ByteArray} {acc : List (List UInt8)} {f : Nat} (h : CutAt c s acc f s.size) : CutAt c s (acc ++ [(s.data.toList.drop f).take (s.size - f)]) (s.size + 1) (s.size + 1) := by
  rcases h with ⟨h1, h2, h3⟩ | ⟨h1, h2⟩
  · refine .inr ⟨rfl, ?_⟩
    rw [h3, show s.data.toList.drop s.size = [] from List.drop_eq_nil_of_le (by rw [ba_len]; omega)]
    rfl
  · omega
theorem CutAt.f_le {c : UInt8} {s : ByteArray} {acc : List (List UInt8)} {f i : Nat} (h : CutAt c s acc f i) (hi : i ≤ s.size) : f ≤ i := by
  rcases h with ⟨h1, h2, h3⟩ | ⟨h1, h2⟩ <;> omega
theorem extract_mk (s : ByteArray) (f i : Nat) : s.extract f i = mkB ((s.data.toList.drop f).take (i - f)) := by
  apply ba_ext; rw [Lib.extract_data, mkB_toList]

def cnt : List ByteArray → Nat | [] => 0 | x :: r => x.size + 1 + cnt r
theorem cnt_append (a b : List ByteArray) : cnt (a ++ b) = cnt a + cnt b := by
  induction a with
  | nil => simp [cnt]
  | cons x r ih => simp [cnt, ih]; omega
theorem cuts_cnt (c : UInt8) (l : List UInt8) : ∀ cur, cnt ((cuts c cur l).map mkB) = cur.length + l.length + 1 := by
  induction l with
  | nil => intro cur; simp [cuts, cnt, mkB_size]
  | cons x r ih =>
    intro cur
    rw [cuts_cons]
    split
    · rw [List.map_cons, cnt, ih, mkB_size]; simp; omega
    · rw [ih]; simp; omega
theorem cutB_cnt (c : UInt8) (s : ByteArray) : cnt (cutB c s) = s.size + 1 := by
  unfold cutB; rw [cuts_cnt, ba_len]; simp
theorem cnt_len (L : List ByteArray) : L.length ≤ cnt L := by
  induction L with
  | nil => simp
  | cons x r ih => simp [cnt]; omega
theorem cnt_take (L : List ByteArray) (k : Nat) (h : k < L.length) : cnt (L.take (k + 1)) = cnt (L.take k) + ((L.getD k ByteArray.empty).size + 1) := by
  rw [List.take_succ_eq_append_getElem h, cnt_append]
  simp [cnt, List.getD, h]
theorem cnt_take_le (L : List ByteArray) (k : Nat) : cnt (L.take k) ≤ cnt L := by
  conv => rhs; rw [← List.take_append_drop k L]
  rw [cnt_append]; omega

def some1 (y : ByteArray) : Bool := !(y.size == 0)
theorem strs_shape {w : World} {v : Value} {ss : List ByteArray} (h : Strs w v ss) : ∃ p cap, v = .slice p ss.length cap ∧ (0 < ss.length → ∃ b off, p = some ⟨b, off, none⟩ ∧ b < w.heap.size ∧ ss.length ≤ cap ∧ cap ≤ maxLen ∧ ∀ i, i < ss.length → w.cell? ⟨b, off + i, none⟩ = some (.string (ss.getD i ByteArray.empty))) := by
  rcases h with ⟨⟨p, cap, rfl⟩, rfl⟩ | ⟨b, off, cap, hv, hl, hm, hb, hcell⟩
  · exact ⟨p, cap, rfl, fun h => by simp at h⟩
  · exact ⟨_, cap, hv, fun _ => ⟨b, off, rfl, hb, hl, hm, hcell⟩⟩
theorem cutB_each (c : UInt8) (s : ByteArray) (k : Nat) (h : k < (cutB c s).length) : ((cutB c s).getD k ByteArray.empty).size ≤ s.size := by
  have h1 := cnt_take (cutB c s) k h
  have h2 := cnt_take_le (cutB c s) (k + 1)
  rw [cutB_cnt] at h2
  omega
theorem toList_empty (y : ByteArray) (h : some1 y = true) : (y.toList == (⟨#[]⟩ : ByteArray).toList) = false := by
  rw [Lib.toList_data, Lib.toList_data, beq_eq_false_iff_ne]
  intro e
  have hl := congrArg List.length e
  rw [ba_len] at hl
  have h0 : y.size = 0 := hl
  simp only [some1, h0] at h
  exact absurd h (by decide)
theorem toList_some (y : ByteArray) (h : some1 y = true) : (!y.toList.isEmpty) = true := by
  have hne := toList_empty y h
  rw [Lib.toList_data] at hne ⊢
  cases hl : y.data.toList with
  | nil =>
    have e : (⟨#[]⟩ : ByteArray).toList = [] := by rw [Lib.toList_data]
    rw [hl, e] at hne
    exact absurd hne (by decide)
  | cons a r => rfl
theorem empty_of (y : ByteArray) (h : some1 y = false) : y = ⟨#[]⟩ := by
  have h0 : y.size = 0 := by
    by_cases h0 : y.size = 0
    · exact h0
    · simp only [some1] at h
      rw [beq_false_of_ne h0] at h
      cases h
  exact ba_ext (List.eq_nil_of_length_eq_zero (by rw [ba_len]; exact h0))

theorem cutB_ne (c : UInt8) (s : ByteArray) : 0 < (cutB c s).length := by
  unfold cutB
  rw [List.length_map]
  exact List.length_pos_iff.2 (cuts_ne c _ _)

theorem row_cells {w : World} {base : Nat} {v : Value} {ss : List ByteArray} (h : w.ownsRow base 9 1 v ss.length (ss.map Value.string)) (h0 : 0 < ss.length) :
    ∃ g cap, v = .slice (some ⟨g, 0, none⟩) ss.length cap ∧ base ≤ g ∧ g < w.heap.size ∧ ss.length ≤ cap ∧ cap ≤ 9223372036854775807 ∧ ∀ i, i < ss.length → w.cell? ⟨g, i, none⟩ = some (.string (ss.getD i ByteArray.empty)) := by
  rcases h.2 with ⟨hv, hn⟩ | ⟨g, cap, cur, hv, hb, hg, hcap, hmax, hsz, htake⟩
  · omega
  · unfold maxLen at hmax
    refine ⟨g, cap, hv, hb, lt_of_block hg, hcap, by omega, fun i hi => ?_⟩
    rw [block_cell hg]
    have e : (cur.toList.take (ss.length * 1))[i]? = (ss.map Value.string)[i]? := by rw [htake]
    rw [List.getElem?_take_of_lt (by omega), List.getElem?_map, List.getElem?_eq_getElem hi] at e
    simpa [List.getD, hi] using e

theorem below_drewN {B : Nat} {a w : World} (h : Below B a w) (n : Nat) : Below B a (w.drewN n) := h.trans ⟨rfl, rfl, rfl, Nat.le_refl _, fun _ _ => rfl⟩
theorem beq_of {x y : ByteArray} (h : x = y) : (x.toList == y.toList) = true := by rw [h]; simp
theorem beq_of_ne {x y : ByteArray} (h : x ≠ y) : (x.toList == y.toList) = false := by
  rw [beq_eq_false_iff_ne]
  intro e
  apply h
  rw [Lib.toList_data, Lib.toList_data] at e
  exact ba_ext e

theorem lit_eq {s : ByteArray} {l : List UInt8} (h : s = ⟨l.toArray⟩) : (s.toList == l) = true := by rw [h, Lib.toList_data]; simp
theorem lit_ne {s : ByteArray} {l : List UInt8} (h : ¬ s = ⟨l.toArray⟩) : (s.toList == l) = false := by
  rw [beq_eq_false_iff_ne, Lib.toList_data]
  intro e
  exact h (ba_ext e)

set_option maxRecDepth 100000 in
set_option maxHeartbeats 1000000 in
theorem parts_own (s : ByteArray) (w : World) (hs : s.size ≤ 1073741824) :
    Calls Tryd.prog 48 #[.string s] w fun e w' => ∃ v, e = .returned v ∧ w'.ownsRow w.heap.size 9 1 v (cutB 47 s).length ((cutB 47 s).map Value.string) ∧ Below w.heap.size w w' := by
  obtain ⟨i0, hi, hz0, hz1, hz2⟩ := info_parts Tryd.info9
  go_enter Tryd.func48, Tryd.ntmps48
  go_wp2_with fail
  go_loopg [3, 4, 5] (s.size + 1) (fun g ov fv iv wr => ∃ (i f : Nat) (acc : List (List UInt8)), i + g = s.size + 1 ∧ iv = .int .i64 i ∧ fv = .int .i64 f ∧ acc.length ≤ i ∧ CutAt 47 s acc f i ∧ wr.ownsRow w.heap.size 9 1 ov acc.length ((acc.map mkB).map Value.string) ∧ Below w.heap.size w wr)
  case atStart => exact ⟨0, 0, [], by omega, rfl, rfl, by simp, CutAt.start _ _, World.ownsRow_nil _ _ _ _, Below.refl _ _⟩
  case round =>
    obtain ⟨i, f, acc, hig, rfl, rfl, hal, hcut, hown, hB⟩ := hrel
    have HC := Lib.hid hcut
    have hBs := hB.size
    clear hcut
    by_cases hle : i ≤ s.size
    · have hf := HC.out.f_le hle
      have hfI : (f : Int) ≤ (i : Int) := by omega
      have hxe := extract_mk s f i
      have Hxe := Lib.hid hxe
      clear hxe
      by_cases hend : i = s.size
      · subst hend
        have h1 : ((s.size : Int) == (s.size : Int)) = true := by simp
        have hl := HC.out.last
        have HL := Lib.hid hl
        clear hl
        go_wp2_with (at_builtin; go_must (refine wpList_append_own _ rfl (.tmp 22) (.tmp 27) 81 rfl w.heap.size 9 i0 (.string ⟨#[]⟩) 1 16 Tryd.underlying81 hi hz0 hz1 hz2 rfl (by decide) _ _ _ rfl (hown.alloc _) ⟨wr.heap.size, 0, none⟩ 1 1 [.string (s.extract f s.size)] rfl rfl (cell_one_new _ _ _) (by intro u hu; simp at hu; subst hu; rfl) (by unfold maxLen; omega) (by omega) (by simp; omega) ?_); intro v2 w2 hown2 hgrow2 _)
        have hB2 := (hB.alloc hBs (Obj.cells #[Value.string (s.extract f s.size)] 9)).grown hgrow2 (by simp; omega) (fun k hk => (hown.lt k hk).1)
        rw [Hxe.out, show (acc.map mkB).map Value.string ++ [Value.string (mkB ((s.data.toList.drop f).take (s.size - f)))] = ((acc ++ [(s.data.toList.drop f).take (s.size - f)]).map mkB).map Value.string by simp] at hown2
        go_roundg (gk - 1)
        case measure => omega
        case rel => exact ⟨s.size + 1, s.size + 1, acc ++ [(s.data.toList.drop f).take (s.size - f)], by omega, by go_num, by go_num, by simp; omega, HL.out, by simpa using hown2, hB2⟩
      · have hlt : i < s.size := by omega
        have hltI : (i : Int) < (s.size : Int) := by omega
        have h1 : ((i : Int) == (s.size : Int)) = false := by simp; omega
        by_cases hc : s[i]'hlt = 47
        · have h2 : (((s[i]'hlt).toNat : Int) == (47 : Int)) = true := by rw [hc]; rfl
          have hl := HC.out.hit hlt hc
          have HL := Lib.hid hl
          clear hl hc
          go_wp2_with (at_builtin; go_must (refine wpList_append_own _ rfl (.tmp 22) (.tmp 27) 81 rfl w.heap.size 9 i0 (.string ⟨#[]⟩) 1 16 Tryd.underlying81 hi hz0 hz1 hz2 rfl (by decide) _ _ _ rfl (hown.alloc _) ⟨wr.heap.size, 0, none⟩ 1 1 [.string (s.extract f i)] rfl rfl (cell_one_new _ _ _) (by intro u hu; simp at hu; subst hu; rfl) (by unfold maxLen; omega) (by omega) (by simp; omega) ?_); intro v2 w2 hown2 hgrow2 _)
          have hB2 := (hB.alloc hBs (Obj.cells #[Value.string (s.extract f i)] 9)).grown hgrow2 (by simp; omega) (fun k hk => (hown.lt k hk).1)
          rw [Hxe.out, show (acc.map mkB).map Value.string ++ [Value.string (mkB ((s.data.toList.drop f).take (i - f)))] = ((acc ++ [(s.data.toList.drop f).take (i - f)]).map mkB).map Value.string by simp] at hown2
          go_roundg (gk - 1)
          case measure => omega
          case rel => exact ⟨i + 1, i + 1, acc ++ [(s.data.toList.drop f).take (i - f)], by omega, by go_num, by go_num, by simp; omega, HL.out, by simpa using hown2, hB2⟩
        · have h2 : (((s[i]'hlt).toNat : Int) == (47 : Int)) = false := by
            rw [beq_eq_false_iff_ne]; intro e; exact hc (UInt8.toNat_inj.1 (by show _ = 47; omega))
          have hl := HC.out.miss hlt hc
          have HL := Lib.hid hl
          clear hl hc
          go_wp2_with fail
          go_roundg (gk - 1)
          case measure => omega
          case rel => exact ⟨i + 1, f, acc, by omega, by go_num, by go_num, by omega, HL.out, hown, hB⟩
    · have hd : acc = cuts 47 [] s.data.toList := by
        rcases HC.out with ⟨_, h2, _⟩ | ⟨_, h2⟩
        · omega
        · exact h2
      have Hd := Lib.hid hd
      clear hd
      go_wp2_with fail
      go_ret
      exact ⟨_, rfl, by unfold cutB; rw [← Hd.out, List.length_map]; exact hown, hB⟩
end Go.Proofs.YtdhaanaenklleaaDoor
