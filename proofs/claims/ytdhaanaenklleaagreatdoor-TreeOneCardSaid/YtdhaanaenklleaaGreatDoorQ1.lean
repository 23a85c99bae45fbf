/- Plain: texts are cut at a byte; Small lemmas on blocks of cells; A region that draws its order and holds calls that make memory: walked once; Walks: texts are cut; words; whether a list has one; Walks: the document's Part; equal lists. -/
import Derived.Lib.Split
import Derived.Lib.Strings
import Derived.WalkKit
import Derived.ProofKit
import Derived.Below
import Derived.OneCell
import Derived.Lib.Hide
import Derived.SliceStrings
import Derived.SizedLaws
import Derived.BigQuiet
import Derived.Test.YtdhaanaenklleaaGreatDoorProg
import Derived.OpenShut
import Derived.WalkSpells
import Derived.WalkLawsBesides
import Derived.Deep.DeepFit
import Derived.RegionTactic
import Derived.ChangeAlike
import Derived.Deep.QuietTactic
import Derived.Deep.LoopGhost
import Derived.Laws.MakeOwn
import Derived.Laws.AppendOwn
import Derived.Deep.DeepMust
import Derived.Maps.AppendAt
namespace Go.Proofs.YtdhaanaenklleaaGreatDoor

theorem ba_ext {a b : ByteArray} (h : a.data.toList = b.data.toList) : a = b := ByteArray.ext (Array.toList_inj.1 h)
theorem ba_append (a b : ByteArray) : (a ++ b).data.toList = a.data.toList ++ b.data.toList := by simp only [ByteArray.data_append, Array.toList_append]
theorem ba_len (a : ByteArray) : a.data.toList.length = a.size := (Lib.size_eq a).symm
def mkB (l : List UInt8) : ByteArray := ⟨l.toArray⟩
theorem mkB_toList (l : List UInt8) : (mkB l).data.toList = l := rfl
theorem mkB_data (s : ByteArray) : mkB s.data.toList = s := by cases s; rfl
theorem mkB_size (a : List UInt8) : (mkB a).size = a.length := by simp [mkB, ByteArray.size]
/-- What stands between the bytes c. -/
def cuts (c : UInt8) : List UInt8 → List UInt8 → List (List UInt8)
  | cur, [] => [cur]
  | cur, x :: r => if x = c then cur :: cuts c [] r else cuts c (cur ++ [x]) r

theorem cuts_ne (c : UInt8) (l : List UInt8) : ∀ cur, cuts c cur l ≠ [] := by
  induction l with
  | nil => intro cur h; cases h
  | cons x r ih =>
    intro cur
    unfold cuts
    split
    · intro h; cases h
    · exact ih _
theorem cuts_none (c : UInt8) (l : List UInt8) : ∀ cur, c ∉ l → cuts c cur l = [cur ++ l] := by
  induction l with
  | nil => intro cur _; simp [cuts]
  | cons x r ih =>
    intro cur h
    simp only [List.mem_cons, not_or] at h
    unfold cuts
    rw [if_neg (fun e => h.1 e.symm), ih _ h.2]
    simp
theorem cuts_at (c : UInt8) (p r : List UInt8) : ∀ cur, c ∉ p → cuts c cur (p ++ c :: r) = (cur ++ p) :: cuts c [] r := by
  induction p with
  | nil => intro cur _; simp [cuts]
  | cons x q ih =>
    intro cur h
    simp only [List.mem_cons, not_or] at h
    rw [List.cons_append, cuts, if_neg (fun e => h.1 e.symm), ih _ h.2]
    simp
theorem cuts_cons (c : UInt8) (cur : List UInt8) (x : UInt8) (r : List UInt8) : cuts c cur (x :: r) = if x = c then cur :: cuts c [] r else cuts c (cur ++ [x]) r := rfl
theorem cuts_append (c : UInt8) (a b : List UInt8) : ∀ cur, cuts c cur (a ++ c :: b) = cuts c cur a ++ cuts c [] b := by
  induction a with
  | nil => intro cur; simp [cuts]
  | cons x r ih =>
    intro cur
    rw [List.cons_append, cuts_cons, cuts_cons]
    by_cases h : x = c
    · rw [if_pos h, if_pos h, ih]; rfl
    · rw [if_neg h, if_neg h, ih]
theorem cuts_free (c : UInt8) (l : List UInt8) : ∀ cur, c ∉ cur → ∀ p ∈ cuts c cur l, c ∉ p := by
  induction l with
  | nil => intro cur hc p h; simp [cuts] at h; subst h; exact hc
  | cons x r ih =>
    intro cur hc p h
    unfold cuts at h
    split at h
    · rcases List.mem_cons.1 h with rfl | h
      · exact hc
      · exact ih [] (by simp) p h
    · rename_i hx
      exact ih _ (by simp only [List.mem_append, List.mem_singleton, not_or]; exact ⟨hc, fun e => hx e.symm⟩) p h

/-- The pieces of a text. -/
def cutB (c : UInt8) (s : ByteArray) : List ByteArray := (cuts c [] s.data.toList).map mkB

theorem occ_one (l : List UInt8) (c : UInt8) (j : Nat) : Lib.occAt l [c] j = true ↔ l[j]? = some c := by
  unfold Lib.occAt
  rw [← List.head?_drop]
  cases h : l.drop j with
  | nil => simp
  | cons x r =>
    show ((c == x) && true) = true ↔ some x = some c
    rw [Bool.and_true, beq_iff_eq, Option.some.injEq]
    exact eq_comm

theorem split_cuts (c : UInt8) : ∀ (n : Nat) (l : List UInt8), l.length ≤ n → Lib.splitK [c] 0 (Lib.count l [c]) l = cuts c [] l := by
  intro n
  induction n with
  | zero =>
    intro l h
    have : l = [] := List.eq_nil_of_length_eq_zero (by omega)
    subst this
    rfl
  | succ n ih =>
    intro l h
    rcases Lib.index_spec l [c] with ⟨hi, hno⟩ | ⟨i, hi, hil, hocc, hno⟩
    · rw [Lib.count_miss hi]
      have hc : c ∉ l := by
        intro hm
        obtain ⟨j, hj, he⟩ := List.getElem_of_mem hm
        have := hno j (by omega)
        have h2 := (occ_one l c j).2 (by rw [List.getElem?_eq_getElem hj, he])
        rw [h2] at this; cases this
      rw [cuts_none c l [] hc]
      rfl
    · have hoc := (occ_one l c i).1 hocc
      have hlt : i < l.length := (List.getElem?_eq_some_iff.1 hoc).1
      have hget : l[i] = c := (List.getElem?_eq_some_iff.1 hoc).2
      rw [Lib.count_hit (by simp) hi, Nat.add_comm 1]
      have hsk : Lib.splitK [c] 0 (Lib.count (l.drop (i + [c].length)) [c] + 1) l = l.take i :: Lib.splitK [c] 0 (Lib.count (l.drop (i + [c].length)) [c]) (l.drop (i + 1)) := by
        rw [Lib.splitK, if_neg (by rw [hi]; simp), hi]
        simp
      rw [List.length_singleton] at hsk ⊢
      rw [hsk, ih _ (by rw [List.length_drop]; omega)]
      have hnc : c ∉ l.take i := by
        intro hm
        obtain ⟨j, hj, he⟩ := List.getElem_of_mem hm
        rw [List.length_take] at hj
        rw [List.getElem_take] at he
        have := hno j (by omega)
        have h2 := (occ_one l c j).2 (by rw [List.getElem?_eq_getElem (by omega), he])
        rw [h2] at this; cases this
      have e : l = l.take i ++ c :: l.drop (i + 1) := by
        rw [← hget, List.getElem_cons_drop, List.take_append_drop]
      conv => rhs; rw [e, cuts_at c _ _ [] hnc]
      simp

theorem splitB_cut (c : UInt8) (s : ByteArray) : Lib.splitB (mkB [c]) 0 (Lib.countB s (mkB [c])) s = cutB c s := by
  have h := Lib.splitB_data (mkB [c]) 0 (Lib.countB s (mkB [c])) s
  rw [mkB_toList, show Lib.countB s (mkB [c]) = Lib.count s.data.toList [c] from rfl, split_cuts c _ _ (Nat.le_refl _)] at h
  unfold cutB
  rw [← h, List.map_map]
  have : (mkB ∘ fun x : ByteArray => x.data.toList) = id := by funext x; exact mkB_data x
  rw [this, List.map_id]
  rfl
theorem cutB_len (c : UInt8) (s : ByteArray) : (cutB c s).length = Lib.countB s (mkB [c]) + 1 := by
  rw [← splitB_cut]
  have h := Lib.splitB_data (mkB [c]) 0 (Lib.countB s (mkB [c])) s
  have hk : ∀ (n : Nat) (l : List UInt8), l.length ≤ n → (Lib.splitK [c] 0 (Lib.count l [c]) l).length = Lib.count l [c] + 1 := by
    intro n
    induction n with
    | zero =>
      intro l h
      have : l = [] := List.eq_nil_of_length_eq_zero (by omega)
      subst this
      rfl
    | succ n ih =>
      intro l h
      rcases Lib.index_spec l [c] with ⟨hi, hno⟩ | ⟨i, hi, hil, hocc, hno⟩
      · rw [Lib.count_miss hi]; rfl
      · have hoc := (occ_one l c i).1 hocc
        have hlt : i < l.length := (List.getElem?_eq_some_iff.1 hoc).1
        rw [Lib.count_hit (by simp) hi, Nat.add_comm 1, Lib.splitK, if_neg (by rw [hi]; simp), hi]
        have := ih (l.drop (i + 1)) (by simp; omega)
        simp at this ⊢
        omega
  have := congrArg List.length h
  rw [List.length_map, mkB_toList] at this
  rw [this]
  exact hk _ _ (Nat.le_refl _)
end Go.Proofs.YtdhaanaenklleaaGreatDoor
namespace Go.Proofs.YtdhaanaenklleaaGreatDoor
open Go.RowKit

theorem block_cell {w : World} {b : Nat} {cur : Array Value} {t : TypeId} (h : w.heap[b]? = some (.cells cur t (0, 0))) (i : Nat) : w.cell? ⟨b, i, none⟩ = cur[i]? := by
  simp [World.cell?, h]
theorem block_free {w : World} {b : Nat} {cur : Array Value} {t : TypeId} (h : w.heap[b]? = some (.cells cur t (0, 0))) (i : Nat) : w.frozen? ⟨b, i, none⟩ = false := by
  simp [World.frozen?, h]
theorem block_set {w : World} {b i : Nat} {cur : Array Value} {u : Value} {t : TypeId} (h : w.heap[b]? = some (.cells cur t (0, 0))) : (w.setCell ⟨b, i, none⟩ u).heap[b]? = some (.cells (cur.setIfInBounds i u) t (0, 0)) := by
  have hlt := lt_of_block h
  have h' : w.heap[b] = .cells cur t (0, 0) := by simpa [Array.getElem?_eq_getElem hlt] using h
  show (w.heap.modify b _)[b]? = _
  rw [Array.getElem?_eq_getElem (by simpa using hlt), Array.getElem_modify_self, h']
  rfl

/-- v is a list of strings in memory: of none, or a row of cells. -/
def Strs (w : World) (v : Value) (ss : List ByteArray) : Prop :=
  ((∃ p cap, v = .slice p 0 cap) ∧ ss = []) ∨
  ∃ b off cap, v = .slice (some ⟨b, off, none⟩) ss.length cap ∧ ss.length ≤ cap ∧ cap ≤ maxLen ∧ b < w.heap.size ∧ ∀ i, i < ss.length → w.cell? ⟨b, off + i, none⟩ = some (.string (ss.getD i ByteArray.empty))

theorem Strs.below {w w' : World} {v : Value} {ss : List ByteArray} (h : Strs w v ss) (hB : Below w.heap.size w w') : Strs w' v ss := by
  rcases h with h | ⟨b, off, cap, hv, hl, hc, hb, hcell⟩
  · exact .inl h
  · exact .inr ⟨b, off, cap, hv, hl, hc, Nat.lt_of_lt_of_le hb hB.size, fun i hi => by rw [hB.cell (p := ⟨b, off + i, none⟩) hb]; exact hcell i hi⟩

theorem Strs.ofRow {w : World} {base : Nat} {v : Value} {ss : List ByteArray} {n : Nat} (h : w.ownsRow base 9 1 v n (ss.map Value.string)) : Strs w v ss := by
  have hlen : ss.length = n := by have := h.1; simpa using this
  rcases h.2 with ⟨hv, hn⟩ | ⟨g, cap, cur, hv, _, hg, hcap, hmax, hsz, htake⟩
  · exact .inl ⟨⟨_, _, hv⟩, List.eq_nil_of_length_eq_zero (by omega)⟩
  · refine .inr ⟨g, 0, cap, by rw [hlen]; exact hv, by omega, hmax, lt_of_block hg, fun i hi => ?_⟩
    rw [block_cell hg]
    have e : (cur.toList.take (n * 1))[i]? = (ss.map Value.string)[i]? := by rw [htake]
    rw [List.getElem?_take_of_lt (by omega), List.getElem?_map, List.getElem?_eq_getElem hi] at e
    simpa [List.getD, hi] using e

end Go.Proofs.YtdhaanaenklleaaGreatDoor
namespace Go.Proofs.YtdhaanaenklleaaGreatDoor
open Go.RowKit

/-- A region that draws its order, walked once in the order of the text, its operations leaving the world in a class. -/
theorem wp_region_class {P : Program} {id : Nat} {Q : Exit → Act → World → Prop} {a : Act} {w : World} {l : List Oper} (C : World → Prop) (hm : P.follows .mixedOrders = true) (hB : Region.lexB .any l.toArray = true) (hC : C w.drew)
    (h : wpQuiet P l.toArray C (fun a' => ∀ w', C w' → Q .normal a' w') l a) : (Code.region id l.toArray true).wp P Q a w :=
  wp_region_quiet (C := C) hm hB hC (by simpa using h)
end Go.Proofs.YtdhaanaenklleaaGreatDoor
namespace Go.Proofs.YtdhaanaenklleaaGreatDoor
set_option linter.unusedVariables false
open Go.ChangeShapes Go.WideShapes Go.ChangeAt Go.RowKit

theorem ownsRow_below {w w' : World} {base : Nat} {e : TypeId} {size : Nat} {v : Value} {n : Nat} {xs : List Value} (h : w.ownsRow base e size v n xs) (hB : Below w.heap.size w w') : w'.ownsRow base e size v n xs :=
  h.kept (row := none) ⟨hB.os, hB.tape, hB.output, hB.size, fun k hk _ => hB.block k hk⟩ (by cases v.ownBlock <;> simp)
theorem Tryz.info9 : (Tryz.prog.info? 9).map (fun i => (i.zero, i.size, i.bytes)) = some (some (.string ⟨#[]⟩), 1, 16) := by kernel_rfl

theorem drop_cons (s : ByteArray) (i : Nat) (h : i < s.size) : s.data.toList.drop i = s[i] :: s.data.toList.drop (i + 1) := by
  have hl : i < s.data.toList.length := by rw [ba_len]; exact h
  rw [← List.getElem_cons_drop (h := hl)]; rfl
theorem take_next (s : ByteArray) (f i : Nat) (h : i < s.size) (hf : f ≤ i) : (s.data.toList.drop f).take (i + 1 - f) = (s.data.toList.drop f).take (i - f) ++ [s[i]] := by
  have hl : i - f < (s.data.toList.drop f).length := by rw [List.length_drop, ba_len]; omega
  rw [show i + 1 - f = (i - f) + 1 by omega, List.take_succ_eq_append_getElem hl, List.getElem_drop]
  congr 2
  show _ = s.data[i]
  simp [show f + (i - f) = i by omega]

/-- Behind the pieces 'acc', at place i, one having begun at f. -/
def CutAt (c : UInt8) (s : ByteArray) (acc : List (List UInt8)) (f i : Nat) : Prop :=
  (f ≤ i ∧ i ≤ s.size ∧ cuts c [] s.data.toList = acc ++ cuts c ((s.data.toList.drop f).take (i - f)) (s.data.toList.drop i)) ∨ (i = s.size + 1 ∧ acc = cuts c [] s.data.toList)

theorem CutAt.start (c : UInt8) (s : ByteArray) : CutAt c s [] 0 0 := .inl ⟨by omega, by omega, by simp⟩
theorem CutAt.hit {c : UInt8} {s : ByteArray} {acc : List (List UInt8)} {f i : Nat} (h : CutAt c s acc f i) (hi : i < s.size) (hc : s[i] = c) : CutAt c s (acc ++ [(s.data.toList.drop f).take (i - f)]) (i + 1) (i + 1) := by
  rcases h with ⟨h1, h2, h3⟩ | ⟨h1, h2⟩
  · refine .inl ⟨by omega, by omega, ?_⟩
    rw [h3, drop_cons s i hi, hc, cuts_cons, if_pos rfl]
    simp
  · omega
theorem CutAt.miss {c : UInt8} {s : ByteArray} {acc : List (List UInt8)} {f i : Nat} (h : CutAt c s acc f i) (hi : i < s.size) (hc : s[i] ≠ c) : CutAt c s acc f (i + 1) := by
  rcases h with ⟨h1, h2, h3⟩ | ⟨h1, h2⟩
  · refine .inl ⟨by omega, by omega, ?_⟩
    rw [h3, drop_cons s i hi, cuts_cons, if_neg hc, take_next s f i hi h1]
  · omega
theorem CutAt.last {c : UInt8} {s : ByteArray} {acc : List (List UInt8)} {f : Nat} (h : CutAt c s acc f s.size) : CutAt c s (acc ++ [(s.data.toList.drop f).take (s.size - f)]) (s.size + 1) (s.size + 1) := by
  rcases h with ⟨h1, h2, h3⟩ | ⟨h1, h2⟩
  · refine .inr ⟨rfl, ?_⟩
    rw [h3, show s.data.toList.drop s.size = [] from List.drop_eq_nil_of_le (by rw [ba_len]; omega)]
    rfl
  · omega
theorem CutAt.f_le {c : UInt8} {s : ByteArray} {acc : List (List UInt8)} {f i : Nat} (h : CutAt c s acc f i) (hi : i ≤ s.size) : f ≤ i := by
  rcases h with ⟨h1, h2, h3⟩ | ⟨h1, h2⟩ <;> omega
theorem extract_mk (s : ByteArray) (f i : Nat) : s.extract f i = mkB ((s.data.toList.drop f).take (i - f)) := by
  apply ba_ext; rw [Lib.extract_data, mkB_toList]

def cnt : List ByteArray → Nat | [] => 0 | x :: r => x.size + 1 + cnt r
theorem cnt_append (a b : List ByteArray) : cnt (a ++ b) = cnt a + cnt b := by
  induction a with
  | nil => simp [cnt]
  | cons x r ih => simp [cnt, ih]; omega
theorem cuts_cnt (c : UInt8) (l : List UInt8) : ∀ cur, cnt ((cuts c cur l).map mkB) = cur.length + l.length + 1 := by
  induction l with
  | nil => intro cur; simp [cuts, cnt, mkB_size]
  | cons x r ih =>
    intro cur
    rw [cuts_cons]
    split
    · rw [List.map_cons, cnt, ih, mkB_size]; simp; omega
    · rw [ih]; simp; omega
theorem cutB_cnt (c : UInt8) (s : ByteArray) : cnt (cutB c s) = s.size + 1 := by
  unfold cutB; rw [cuts_cnt, ba_len]; simp
theorem cnt_len (L : List ByteArray) : L.length ≤ cnt L := by
  induction L with
  | nil => simp
  | cons x r ih => simp [cnt]; omega
theorem cnt_take (L : List ByteArray) (k : Nat) (h : k < L.length) : cnt (L.take (k + 1)) = cnt (L.take k) + ((L.getD k ByteArray.empty).size + 1) := by
  rw [List.take_succ_eq_append_getElem h, cnt_append]
  simp [cnt, List.getD, h]
theorem cnt_take_le (L : List ByteArray) (k : Nat) : cnt (L.take k) ≤ cnt L := by
  conv => rhs; rw [← List.take_append_drop k L]
  rw [cnt_append]; omega

def some1 (y : ByteArray) : Bool := !(y.size == 0)
theorem strs_shape {w : World} {v : Value} {ss : List ByteArray} (h : Strs w v ss) : ∃ p cap, v = .slice p ss.length cap ∧ (0 < ss.length → ∃ b off, p = some ⟨b, off, none⟩ ∧ b < w.heap.size ∧ ss.length ≤ cap ∧ cap ≤ maxLen ∧ ∀ i, i < ss.length → w.cell? ⟨b, off + i, none⟩ = some (.string (ss.getD i ByteArray.empty))) := by
  rcases h with ⟨⟨p, cap, rfl⟩, rfl⟩ | ⟨b, off, cap, hv, hl, hm, hb, hcell⟩
  · exact ⟨p, cap, rfl, fun h => by simp at h⟩
  · exact ⟨_, cap, hv, fun _ => ⟨b, off, rfl, hb, hl, hm, hcell⟩⟩
theorem cutB_each (c : UInt8) (s : ByteArray) (k : Nat) (h : k < (cutB c s).length) : ((cutB c s).getD k ByteArray.empty).size ≤ s.size := by
  have h1 := cnt_take (cutB c s) k h
  have h2 := cnt_take_le (cutB c s) (k + 1)
  rw [cutB_cnt] at h2
  omega
theorem toList_empty (y : ByteArray) (h : some1 y = true) : (y.toList == (⟨#[]⟩ : ByteArray).toList) = false := by
  rw [Lib.toList_data, Lib.toList_data, beq_eq_false_iff_ne]
  intro e
  have hl := congrArg List.length e
  rw [ba_len] at hl
  have h0 : y.size = 0 := hl
  simp only [some1, h0] at h
  exact absurd h (by decide)
theorem toList_some (y : ByteArray) (h : some1 y = true) : (!y.toList.isEmpty) = true := by
  have hne := toList_empty y h
  rw [Lib.toList_data] at hne ⊢
  cases hl : y.data.toList with
  | nil =>
    have e : (⟨#[]⟩ : ByteArray).toList = [] := by rw [Lib.toList_data]
    rw [hl, e] at hne
    exact absurd hne (by decide)
  | cons a r => rfl
theorem empty_of (y : ByteArray) (h : some1 y = false) : y = ⟨#[]⟩ := by
  have h0 : y.size = 0 := by
    by_cases h0 : y.size = 0
    · exact h0
    · simp only [some1] at h
      rw [beq_false_of_ne h0] at h
      cases h
  exact ba_ext (List.eq_nil_of_length_eq_zero (by rw [ba_len]; exact h0))

theorem cutB_ne (c : UInt8) (s : ByteArray) : 0 < (cutB c s).length := by
  unfold cutB
  rw [List.length_map]
  exact List.length_pos_iff.2 (cuts_ne c _ _)

theorem beq_of {x y : ByteArray} (h : x = y) : (x.toList == y.toList) = true := by rw [h]; simp
theorem beq_of_ne {x y : ByteArray} (h : x ≠ y) : (x.toList == y.toList) = false := by
  rw [beq_eq_false_iff_ne]
  intro e
  apply h
  rw [Lib.toList_data, Lib.toList_data] at e
  exact ba_ext e

set_option maxRecDepth 100000 in
set_option maxHeartbeats 1000000 in
theorem parts_own (s : ByteArray) (w : World) (hs : s.size ≤ 1073741824) :
    Calls Tryz.prog 54 #[.string s] w fun e w' => ∃ v, e = .returned v ∧ w'.ownsRow w.heap.size 9 1 v (cutB 47 s).length ((cutB 47 s).map Value.string) ∧ Below w.heap.size w w' := by
  obtain ⟨i0, hi, hz0, hz1, hz2⟩ := info_parts Tryz.info9
  go_enter Tryz.func54, Tryz.ntmps54
  go_wp2_with fail
  go_loopg [3, 4, 5] (s.size + 1) (fun g ov fv iv wr => ∃ (i f : Nat) (acc : List (List UInt8)), i + g = s.size + 1 ∧ iv = .int .i64 i ∧ fv = .int .i64 f ∧ acc.length ≤ i ∧ CutAt 47 s acc f i ∧ wr.ownsRow w.heap.size 9 1 ov acc.length ((acc.map mkB).map Value.string) ∧ Below w.heap.size w wr)
  case atStart => exact ⟨0, 0, [], by omega, rfl, rfl, by simp, CutAt.start _ _, World.ownsRow_nil _ _ _ _, Below.refl _ _⟩
  case round =>
    obtain ⟨i, f, acc, hig, rfl, rfl, hal, hcut, hown, hB⟩ := hrel
    have HC := Lib.hid hcut
    have hBs := hB.size
    clear hcut
    by_cases hle : i ≤ s.size
    · have hf := HC.out.f_le hle
      have hfI : (f : Int) ≤ (i : Int) := by omega
      have hxe := extract_mk s f i
      have Hxe := Lib.hid hxe
      clear hxe
      by_cases hend : i = s.size
      · subst hend
        have h1 : ((s.size : Int) == (s.size : Int)) = true := by simp
        have hl := HC.out.last
        have HL := Lib.hid hl
        clear hl
        go_wp2_with (at_builtin; go_must (refine wpList_append_own _ rfl (.tmp 22) (.tmp 27) 99 rfl w.heap.size 9 i0 (.string ⟨#[]⟩) 1 16 Tryz.underlying99 hi hz0 hz1 hz2 rfl (by decide) _ _ _ rfl (hown.alloc _) ⟨wr.heap.size, 0, none⟩ 1 1 [.string (s.extract f s.size)] rfl rfl (cell_one_new _ _ _) (by intro u hu; simp at hu; subst hu; rfl) (by unfold maxLen; omega) (by omega) (by simp; omega) ?_); intro v2 w2 hown2 hgrow2 _)
        have hB2 := (hB.alloc hBs (Obj.cells #[Value.string (s.extract f s.size)] 9)).grown hgrow2 (by simp; omega) (fun k hk => (hown.lt k hk).1)
        rw [Hxe.out, show (acc.map mkB).map Value.string ++ [Value.string (mkB ((s.data.toList.drop f).take (s.size - f)))] = ((acc ++ [(s.data.toList.drop f).take (s.size - f)]).map mkB).map Value.string by simp] at hown2
        go_roundg (gk - 1)
        case measure => omega
        case rel => exact ⟨s.size + 1, s.size + 1, acc ++ [(s.data.toList.drop f).take (s.size - f)], by omega, by go_num, by go_num, by simp; omega, HL.out, by simpa using hown2, hB2⟩
      · have hlt : i < s.size := by omega
        have hltI : (i : Int) < (s.size : Int) := by omega
        have h1 : ((i : Int) == (s.size : Int)) = false := by simp; omega
        by_cases hc : s[i]'hlt = 47
        · have h2 : (((s[i]'hlt).toNat : Int) == (47 : Int)) = true := by rw [hc]; rfl
          have hl := HC.out.hit hlt hc
          have HL := Lib.hid hl
          clear hl hc
          go_wp2_with (at_builtin; go_must (refine wpList_append_own _ rfl (.tmp 22) (.tmp 27) 99 rfl w.heap.size 9 i0 (.string ⟨#[]⟩) 1 16 Tryz.underlying99 hi hz0 hz1 hz2 rfl (by decide) _ _ _ rfl (hown.alloc _) ⟨wr.heap.size, 0, none⟩ 1 1 [.string (s.extract f i)] rfl rfl (cell_one_new _ _ _) (by intro u hu; simp at hu; subst hu; rfl) (by unfold maxLen; omega) (by omega) (by simp; omega) ?_); intro v2 w2 hown2 hgrow2 _)
          have hB2 := (hB.alloc hBs (Obj.cells #[Value.string (s.extract f i)] 9)).grown hgrow2 (by simp; omega) (fun k hk => (hown.lt k hk).1)
          rw [Hxe.out, show (acc.map mkB).map Value.string ++ [Value.string (mkB ((s.data.toList.drop f).take (i - f)))] = ((acc ++ [(s.data.toList.drop f).take (i - f)]).map mkB).map Value.string by simp] at hown2
          go_roundg (gk - 1)
          case measure => omega
          case rel => exact ⟨i + 1, i + 1, acc ++ [(s.data.toList.drop f).take (i - f)], by omega, by go_num, by go_num, by simp; omega, HL.out, by simpa using hown2, hB2⟩
        · have h2 : (((s[i]'hlt).toNat : Int) == (47 : Int)) = false := by
            rw [beq_eq_false_iff_ne]; intro e; exact hc (UInt8.toNat_inj.1 (by show _ = 47; omega))
          have hl := HC.out.miss hlt hc
          have HL := Lib.hid hl
          clear hl hc
          go_wp2_with fail
          go_roundg (gk - 1)
          case measure => omega
          case rel => exact ⟨i + 1, f, acc, by omega, by go_num, by go_num, by omega, HL.out, hown, hB⟩
    · have hd : acc = cuts 47 [] s.data.toList := by
        rcases HC.out with ⟨_, h2, _⟩ | ⟨_, h2⟩
        · omega
        · exact h2
      have Hd := Lib.hid hd
      clear hd
      go_wp2_with fail
      go_ret
      exact ⟨_, rfl, by unfold cutB; rw [← Hd.out, List.length_map]; exact hown, hB⟩
end Go.Proofs.YtdhaanaenklleaaGreatDoor
namespace Go.Proofs.YtdhaanaenklleaaGreatDoor
set_option linter.unusedVariables false
open Go.ChangeShapes Go.WideShapes Go.ChangeAt Go.RowKit

def cleanB (s : ByteArray) : Bool := s.data.toList.all fun c => !(c == 0) && !(c == 47)
def dotB (s : ByteArray) : Bool := some1 s && !(s.toList == ([46] : List UInt8)) && !(s.toList == ([46, 46] : List UInt8))
def partB (s : ByteArray) : Bool := cleanB s && dotB s

theorem clean_not (s : ByteArray) (i : Nat) (h : i < s.size) (hc : s[i] = 0 ∨ s[i] = 47) : partB s = false := by
  have hm : s[i] ∈ s.data.toList := by
    have hl : i < s.data.toList.length := by rw [ba_len]; exact h
    exact List.getElem_mem hl
  have : cleanB s = false := by
    unfold cleanB
    rw [List.all_eq_false]
    refine ⟨_, hm, ?_⟩
    rcases hc with hc | hc <;> rw [hc] <;> decide
  unfold partB; rw [this]; rfl
theorem clean_yes (s : ByteArray) (hc : ∀ j (h : j < s.size), s[j] ≠ 0 ∧ s[j] ≠ 47) : cleanB s = true := by
  unfold cleanB
  rw [List.all_eq_true]
  intro c hm
  obtain ⟨j, hj, he⟩ := List.getElem_of_mem hm
  have hj' : j < s.size := by rw [ba_len] at hj; exact hj
  have := hc j hj'
  have e : s[j]'hj' = c := he
  rw [e] at this
  simp [this.1, this.2]

set_option maxRecDepth 100000 in
set_option maxHeartbeats 400000 in
theorem part_any (s : ByteArray) (w : World) (hs : s.size ≤ 1073741824) : Calls Tryz.prog 55 #[.string s] w fun e w' => e = .returned (.bool (partB s)) ∧ w = w' := by
  go_enter Tryz.func55, Tryz.ntmps55
  go_wp2_with fail
  go_loopg [3] s.size (fun g iv wr => ∃ i : Nat, i + g = s.size ∧ iv = .int .i64 i ∧ (∀ j (h : j < s.size), j < i → s[j] ≠ 0 ∧ s[j] ≠ 47) ∧ w = wr)
  case atStart => exact ⟨0, by omega, rfl, fun j h hj => by omega, rfl⟩
  case round =>
    obtain ⟨i, hig, rfl, hno, rfl⟩ := hrel
    have Hno := Lib.hid hno
    clear hno
    by_cases hlt : i < s.size
    · have hltI : (i : Int) < (s.size : Int) := by omega
      by_cases h0 : s[i]'hlt = 0
      · have h1 : (((s[i]'hlt).toNat : Int) == (0 : Int)) = true := by rw [h0]; rfl
        have hp := Lib.hid (clean_not s i hlt (.inl h0))
        clear h0
        go_wp2_with fail
        go_ret
        exact ⟨by rw [hp.out]; rfl, rfl⟩
      have h1 : (((s[i]'hlt).toNat : Int) == (0 : Int)) = false := by
        rw [beq_eq_false_iff_ne]; intro e; exact h0 (UInt8.toNat_inj.1 (by show _ = 0; omega))
      by_cases h47 : s[i]'hlt = 47
      · have h2 : (((s[i]'hlt).toNat : Int) == (47 : Int)) = true := by rw [h47]; rfl
        have hp := Lib.hid (clean_not s i hlt (.inr h47))
        clear h0 h47
        go_wp2_with fail
        go_ret
        exact ⟨by rw [hp.out]; rfl, rfl⟩
      have h2 : (((s[i]'hlt).toNat : Int) == (47 : Int)) = false := by
        rw [beq_eq_false_iff_ne]; intro e; exact h47 (UInt8.toNat_inj.1 (by show _ = 47; omega))
      have hn : ∀ j (h : j < s.size), j < i + 1 → s[j] ≠ 0 ∧ s[j] ≠ 47 := by
        intro j h hj
        by_cases e : j = i
        · subst e; exact ⟨h0, h47⟩
        · exact Hno.out j h (by omega)
      have Hn := Lib.hid hn
      clear h0 h47 hn
      go_wp2_with fail
      go_roundg (gk - 1)
      case measure => omega
      case rel => exact ⟨i + 1, by omega, by go_num, Hn.out, rfl⟩
    · have hi : i = s.size := by omega
      subst hi
      have hc := clean_yes s (fun j h => Hno.out j h h)
      have hp : partB s = dotB s := by unfold partB; rw [hc]; rfl
      have Hp := Lib.hid hp
      clear hc hp
      cases hs1 : some1 s with
      | false =>
        have e := empty_of s hs1
        have Hd := Lib.hid (show dotB s = false by unfold dotB; rw [hs1]; rfl)
        have h1 : (!s.toList.isEmpty) = false := by rw [e, Lib.toList_data]; rfl
        have h2 : (s.toList == ([] : List UInt8)) = true := by rw [e, Lib.toList_data]; rfl
        clear e hs1
        go_wp2_with fail
        go_ret
        exact ⟨by rw [Hp.out, Hd.out]; rfl, rfl⟩
      | true =>
        have n1 := toList_some s hs1
        have n2 : (s.toList == ([] : List UInt8)) = false := by
          have := toList_empty s hs1
          rw [Lib.toList_data ⟨#[]⟩] at this
          exact this
        cases hd1 : (s.toList == ([46] : List UInt8)) with
        | true =>
          have Hd := Lib.hid (show dotB s = false by unfold dotB; rw [hs1, hd1]; rfl)
          clear hs1
          go_wp2_with fail
          go_ret
          exact ⟨by rw [Hp.out, Hd.out]; rfl, rfl⟩
        | false =>
          cases hd2 : (s.toList == ([46, 46] : List UInt8)) with
          | true =>
            have Hd := Lib.hid (show dotB s = false by unfold dotB; rw [hs1, hd1, hd2]; rfl)
            clear hs1
            go_wp2_with fail
            go_ret
            exact ⟨by rw [Hp.out, Hd.out]; rfl, rfl⟩
          | false =>
            have Hd := Lib.hid (show dotB s = true by unfold dotB; rw [hs1, hd1, hd2]; rfl)
            clear hs1
            go_wp2_with fail
            go_ret
            exact ⟨by rw [Hp.out, Hd.out]; rfl, rfl⟩
end Go.Proofs.YtdhaanaenklleaaGreatDoor
