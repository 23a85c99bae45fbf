/- Walks: texts are cut; words; whether a list has one. -/
import Derived.Test.YtpibehfmbmincaaGreatDoorProg
import Derived.Test.YtpibehfmbmincaaGreatDoorPb
import Derived.Test.YtpibehfmbmincaaGreatDoorKt
import Derived.Test.YtpibehfmbmincaaGreatDoorKq
import Derived.WalkKit
import Derived.ProofKit
import Derived.OpenShut
import Derived.WalkSpells
import Derived.WalkLawsBesides
import Derived.Below
import Derived.Deep.DeepFit
import Derived.RegionTactic
import Derived.ChangeAlike
import Derived.Deep.QuietTactic
import Derived.Deep.LoopGhost
import Derived.BigQuiet
import Derived.Laws.MakeOwn
import Derived.Laws.AppendOwn
import Derived.Deep.DeepMust
import Derived.Maps.AppendAt
namespace Go.Proofs.YtpibehfmbmincaaGreatDoor
set_option linter.unusedVariables false
open Go.ChangeShapes Go.WideShapes Go.ChangeAt Go.RowKit

theorem ownsRow_below {w w' : World} {base : Nat} {e : TypeId} {size : Nat} {v : Value} {n : Nat} {xs : List Value} (h : w.ownsRow base e size v n xs) (hB : Below w.heap.size w w') : w'.ownsRow base e size v n xs :=
  h.kept (row := none) ⟨hB.os, hB.tape, hB.output, hB.size, fun k hk _ => hB.block k hk⟩ (by cases v.ownBlock <;> simp)
theorem Tryz.info9 : (Tryz.prog.info? 9).map (fun i => (i.zero, i.size, i.bytes)) = some (some (.string ⟨#[]⟩), 1, 16) := by kernel_rfl

theorem drop_cons (s : ByteArray) (i : Nat) (h : i < s.size) : s.data.toList.drop i = s[i] :: s.data.toList.drop (i + 1) := by
  have hl : i < s.data.toList.length := by rw [ba_len]; exact h
  rw [← List.getElem_cons_drop (h := hl)]; rfl
theorem take_next (s : ByteArray) (f i : Nat) (h : i < s.size) (hf : f ≤ i) : (s.data.toList.drop f).take (i + 1 - f) = (s.data.toList.drop f).take (i - f) ++ [s[i]] := by
  have hl : i - f < (s.data.toList.drop f).length := by rw [List.length_drop, ba_len]; omega
  rw [show i + 1 - f = (i - f) + 1 by omega, List.take_succ_eq_append_getElem hl, List.getElem_drop]
  congr 2
  show _ = s.data[i]
  simp [show f + (i - f) = i by omega]

/-- Behind the pieces 'acc', at place i, one having begun at f. -/
def CutAt (c : UInt8) (s : ByteArray) (acc : List (List UInt8)) (f i : Nat) : Prop :=
  (f ≤ i ∧ i ≤ s.size ∧ cuts c [] s.data.toList = acc ++ cuts c ((s.data.toList.drop f).take (i - f)) (s.data.toList.drop i)) ∨ (i = s.size + 1 ∧ acc = cuts c [] s.data.toList)

theorem CutAt.start (c : UInt8) (s : ByteArray) : CutAt c s [] 0 0 := .inl ⟨by omega, by omega, by simp⟩
theorem CutAt.hit {c : UInt8} {s : ByteArray} {acc : List (List UInt8)} {f i : Nat} (h : CutAt c s acc f i) (hi : i < s.size) (hc : s[i] = c) : CutAt c s (acc ++ [(s.data.toList.drop f).take (i - f)]) (i + 1) (i + 1) := by
  rcases h with ⟨h1, h2, h3⟩ | ⟨h1, h2⟩
  · refine .inl ⟨by omega, by omega, ?_⟩
    rw [h3, drop_cons s i hi, hc, cuts_cons, if_pos rfl]
    simp
  · omega
theorem CutAt.miss {c : UInt8} {s : ByteArray} {acc : List (List UInt8)} {f i : Nat} (h : CutAt c s acc f i) (hi : i < s.size) (hc : s[i] ≠ c) : CutAt c s acc f (i + 1) := by
  rcases h with ⟨h1, h2, h3⟩ | ⟨h1, h2⟩
  · refine .inl ⟨by omega, by omega, ?_⟩
    rw [h3, drop_cons s i hi, cuts_cons, if_neg hc, take_next s f i hi h1]
  · omega
theorem CutAt.last {c : UInt8} {s : ByteArray} {acc : List (List UInt8)} {f : Nat} (h : CutAt c s acc f s.size) : CutAt c s (acc ++ [(s.data.toList.drop f).take (s.size - f)]) (s.size + 1) (s.size + 1) := by
  rcases h with ⟨h1, h2, h3⟩ | ⟨h1, h2⟩
  · refine .inr ⟨rfl, ?_⟩
    rw [h3, show s.data.toList.drop s.size = [] from List.drop_eq_nil_of_le (by rw [ba_len]; omega)]
    rfl
  · omega
theorem CutAt.f_le {c : UInt8} {s : ByteArray} {acc : List (List UInt8)} {f i : Nat} (h : CutAt c s acc f i) (hi : i ≤ s.size) : f ≤ i := by
  rcases h with ⟨h1, h2, h3⟩ | ⟨h1, h2⟩ <;> omega
theorem extract_mk (s : ByteArray) (f i : Nat) : s.extract f i = mkB ((s.data.toList.drop f).take (i - f)) := by
  apply ba_ext; rw [Lib.extract_data, mkB_toList]

def cnt : List ByteArray → Nat | [] => 0 | x :: r => x.size + 1 + cnt r
theorem cnt_append (a b : List ByteArray) : cnt (a ++ b) = cnt a + cnt b := by
  induction a with
  | nil => simp [cnt]
  | cons x r ih => simp [cnt, ih]; omega
theorem cuts_cnt (c : UInt8) (l : List UInt8) : ∀ cur, cnt ((cuts c cur l).map mkB) = cur.length + l.length + 1 := by
  induction l with
  | nil => intro cur; simp [cuts, cnt, mkB_size]
  | cons x r ih =>
    intro cur
    rw [cuts_cons]
    split
    · rw [List.map_cons, cnt, ih, mkB_size]; simp; omega
    · rw [ih]; simp; omega
theorem cutB_cnt (c : UInt8) (s : ByteArray) : cnt (cutB c s) = s.size + 1 := by
  unfold cutB; rw [cuts_cnt, ba_len]; simp
theorem cnt_len (L : List ByteArray) : L.length ≤ cnt L := by
  induction L with
  | nil => simp
  | cons x r ih => simp [cnt]; omega
theorem cnt_take (L : List ByteArray) (k : Nat) (h : k < L.length) : cnt (L.take (k + 1)) = cnt (L.take k) + ((L.getD k ByteArray.empty).size + 1) := by
  rw [List.take_succ_eq_append_getElem h, cnt_append]
  simp [cnt, List.getD, h]
theorem cnt_take_le (L : List ByteArray) (k : Nat) : cnt (L.take k) ≤ cnt L := by
  conv => rhs; rw [← List.take_append_drop k L]
  rw [cnt_append]; omega

def some1 (y : ByteArray) : Bool := !(y.size == 0)
theorem strs_shape {w : World} {v : Value} {ss : List ByteArray} (h : Strs w v ss) : ∃ p cap, v = .slice p ss.length cap ∧ (0 < ss.length → ∃ b off, p = some ⟨b, off, none⟩ ∧ b < w.heap.size ∧ ss.length ≤ cap ∧ cap ≤ maxLen ∧ ∀ i, i < ss.length → w.cell? ⟨b, off + i, none⟩ = some (.string (ss.getD i ByteArray.empty))) := by
  rcases h with ⟨⟨p, cap, rfl⟩, rfl⟩ | ⟨b, off, cap, hv, hl, hm, hb, hcell⟩
  · exact ⟨p, cap, rfl, fun h => by simp at h⟩
  · exact ⟨_, cap, hv, fun _ => ⟨b, off, rfl, hb, hl, hm, hcell⟩⟩
theorem cutB_each (c : UInt8) (s : ByteArray) (k : Nat) (h : k < (cutB c s).length) : ((cutB c s).getD k ByteArray.empty).size ≤ s.size := by
  have h1 := cnt_take (cutB c s) k h
  have h2 := cnt_take_le (cutB c s) (k + 1)
  rw [cutB_cnt] at h2
  omega
theorem toList_empty (y : ByteArray) (h : some1 y = true) : (y.toList == (⟨#[]⟩ : ByteArray).toList) = false := by
  rw [Lib.toList_data, Lib.toList_data, beq_eq_false_iff_ne]
  intro e
  have hl := congrArg List.length e
  rw [ba_len] at hl
  have h0 : y.size = 0 := hl
  simp only [some1, h0] at h
  exact absurd h (by decide)
theorem toList_some (y : ByteArray) (h : some1 y = true) : (!y.toList.isEmpty) = true := by
  have hne := toList_empty y h
  rw [Lib.toList_data] at hne ⊢
  cases hl : y.data.toList with
  | nil =>
    have e : (⟨#[]⟩ : ByteArray).toList = [] := by rw [Lib.toList_data]
    rw [hl, e] at hne
    exact absurd hne (by decide)
  | cons a r => rfl
theorem empty_of (y : ByteArray) (h : some1 y = false) : y = ⟨#[]⟩ := by
  have h0 : y.size = 0 := by
    by_cases h0 : y.size = 0
    · exact h0
    · simp only [some1] at h
      rw [beq_false_of_ne h0] at h
      cases h
  exact ba_ext (List.eq_nil_of_length_eq_zero (by rw [ba_len]; exact h0))

theorem cutB_ne (c : UInt8) (s : ByteArray) : 0 < (cutB c s).length := by
  unfold cutB
  rw [List.length_map]
  exact List.length_pos_iff.2 (cuts_ne c _ _)

theorem row_cells {w : World} {base : Nat} {v : Value} {ss : List ByteArray} (h : w.ownsRow base 9 1 v ss.length (ss.map Value.string)) (h0 : 0 < ss.length) :
    ∃ g cap, v = .slice (some ⟨g, 0, none⟩) ss.length cap ∧ base ≤ g ∧ g < w.heap.size ∧ ss.length ≤ cap ∧ cap ≤ 9223372036854775807 ∧ ∀ i, i < ss.length → w.cell? ⟨g, i, none⟩ = some (.string (ss.getD i ByteArray.empty)) := by
  rcases h.2 with ⟨hv, hn⟩ | ⟨g, cap, cur, hv, hb, hg, hcap, hmax, hsz, htake⟩
  · omega
  · unfold maxLen at hmax
    refine ⟨g, cap, hv, hb, lt_of_block hg, hcap, by omega, fun i hi => ?_⟩
    rw [block_cell hg]
    have e : (cur.toList.take (ss.length * 1))[i]? = (ss.map Value.string)[i]? := by rw [htake]
    rw [List.getElem?_take_of_lt (by omega), List.getElem?_map, List.getElem?_eq_getElem hi] at e
    simpa [List.getD, hi] using e

theorem below_drewN {B : Nat} {a w : World} (h : Below B a w) (n : Nat) : Below B a (w.drewN n) := h.trans ⟨rfl, rfl, rfl, Nat.le_refl _, fun _ _ => rfl⟩
theorem beq_of {x y : ByteArray} (h : x = y) : (x.toList == y.toList) = true := by rw [h]; simp
theorem beq_of_ne {x y : ByteArray} (h : x ≠ y) : (x.toList == y.toList) = false := by
  rw [beq_eq_false_iff_ne]
  intro e
  apply h
  rw [Lib.toList_data, Lib.toList_data] at e
  exact ba_ext e

theorem lit_eq {s : ByteArray} {l : List UInt8} (h : s = ⟨l.toArray⟩) : (s.toList == l) = true := by rw [h, Lib.toList_data]; simp
theorem lit_ne {s : ByteArray} {l : List UInt8} (h : ¬ s = ⟨l.toArray⟩) : (s.toList == l) = false := by
  rw [beq_eq_false_iff_ne, Lib.toList_data]
  intro e
  exact h (ba_ext e)

/-- What a text's bytes tell a walk. -/
theorem some_facts {s : ByteArray} (h : some1 s = true) : (!s.toList.isEmpty) = true ∧ (s.toList == ([] : List UInt8)) = false := by
  refine ⟨toList_some s h, ?_⟩
  have := toList_empty s h
  rw [Lib.toList_data ⟨#[]⟩] at this
  exact this
theorem none_facts {s : ByteArray} (h : some1 s = false) : (!s.toList.isEmpty) = false ∧ (s.toList == ([] : List UInt8)) = true := by
  have e := empty_of s h
  exact ⟨by rw [e, Lib.toList_data]; rfl, by rw [e, Lib.toList_data]; rfl⟩
theorem own_shape {w : World} {base : Nat} {v : Value} {n : Nat} {xs : List Value} (h : w.ownsRow base 9 1 v n xs) : ∃ p cap, v = .slice p n cap ∧ n ≤ cap ∧ cap ≤ 9223372036854775807 ∧ (0 < n → ∃ g, p = some ⟨g, 0, none⟩) := by
  rcases h.2 with ⟨rfl, rfl⟩ | ⟨g, cap, cur, rfl, _, _, hc, hm, _⟩
  · exact ⟨none, 0, rfl, by omega, by omega, fun h => by omega⟩
  · unfold maxLen at hm
    exact ⟨_, cap, rfl, hc, by omega, fun _ => ⟨g, rfl⟩⟩
theorem row_of_alloc (L : List ByteArray) (w : World) (hm : L.length ≤ maxLen) : (w.alloc (.cells (L.map Value.string).toArray 9)).ownsRow w.heap.size 9 1 (.slice (some ⟨w.heap.size, 0, none⟩) L.length L.length) L.length (L.map Value.string) := by
  refine ⟨by simp, .inr ⟨w.heap.size, L.length, (L.map Value.string).toArray, rfl, Nat.le_refl _, ?_, Nat.le_refl _, hm, by simp, by rw [Nat.mul_one]; exact List.take_of_length_le (by simp)⟩⟩
  show (w.heap.push _)[w.heap.size]? = _
  simp
theorem own_two {w : World} {base : Nat} {v : Value} {n : Nat} {xs : List Value} (h : w.ownsRow base 9 1 v n xs) : (v = .slice none 0 0 ∧ n = 0) ∨ ∃ g cap, v = .slice (some ⟨g, 0, none⟩) n cap ∧ n ≤ cap ∧ cap ≤ 9223372036854775807 := by
  rcases h.2 with ⟨rfl, rfl⟩ | ⟨g, cap, cur, rfl, _, _, hc, hm, _⟩
  · exact .inl ⟨rfl, rfl⟩
  · unfold maxLen at hm
    exact .inr ⟨g, cap, rfl, hc, by omega⟩
theorem own_base {w : World} {b b' : Nat} {v : Value} {n : Nat} {xs : List Value} (h : w.ownsRow b 9 1 v n xs) (hb : b' ≤ b) : w.ownsRow b' 9 1 v n xs := by
  refine ⟨h.1, ?_⟩
  rcases h.2 with h | ⟨g, cap, cur, hv, hg, rest⟩
  · exact .inl h
  · exact .inr ⟨g, cap, cur, hv, Nat.le_trans hb hg, rest⟩

end Go.Proofs.YtpibehfmbmincaaGreatDoor
