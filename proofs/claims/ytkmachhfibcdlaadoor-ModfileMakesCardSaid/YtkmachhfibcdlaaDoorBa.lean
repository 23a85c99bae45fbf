/- Small lemmas: texts and rows of texts in memory. -/
import Derived.Test.YtkmachhfibcdlaaDoorKa
import Derived.Test.YtkmachhfibcdlaaDoorSh
import Derived.SliceStrings
import Derived.Laws.Runes
import Derived.Laws.RangeAny
import Derived.Laws.RangeString
import Derived.Lib.DecodeN
namespace Go.Proofs.YtkmachhfibcdlaaDoor
set_option linter.unusedVariables false
set_option linter.unusedSimpArgs false
open Go.ChangeShapes Go.WideShapes Go.ChangeAt Go.RowKit

theorem decodeN_range (n b0 b1 b2 b3 : Nat) (h : 1 ≤ n) : 1 ≤ (Lib.decodeN n b0 b1 b2 b3).2 ∧ (Lib.decodeN n b0 b1 b2 b3).2 ≤ n := by
  unfold Lib.decodeN
  repeat' split
  all_goals (simp only; omega)

theorem get_is (s : ByteArray) (i : Nat) (h : i < s.size) : s.get! i = s[i] := by
  show s.data[i]! = _
  rw [getElem!_pos s.data i h]; rfl

theorem ba_ext {a b : ByteArray} (h : a.data.toList = b.data.toList) : a = b := ByteArray.ext (Array.toList_inj.1 h)
theorem get_list (t : ByteArray) (j : Nat) : t.get! j = (t.data.toList[j]?).getD default := by
  show t.data[j]! = _
  rw [getElem!_def, Array.getElem?_toList]
  cases t.data[j]? <;> rfl

def byt (s : ByteArray) (i : Nat) : Nat := (s.get! i).toNat
theorem byt_list {s : ByteArray} {i : Nat} (h : i < s.size) : s.data.toList[i]? = some (s.get! i) := by
  rw [get_is s i h]
  have : i < s.data.toList.length := by rw [← Lib.size_eq]; exact h
  rw [List.getElem?_eq_getElem this]
  simp [ByteArray.getElem_eq_getElem_data]
theorem beq_data (x y : ByteArray) : (x.toList == y.toList) = decide (x.data.toList = y.data.toList) := by
  rw [Lib.toList_data, Lib.toList_data]
  by_cases h : x.data.toList = y.data.toList
  · rw [h]; simp
  · rw [beq_eq_false_iff_ne.2 h, decide_eq_false h]

theorem int_eqb (a b : Nat) : ((a : Int) == (b : Int)) = decide (a = b) := by
  by_cases h : a = b
  · rw [decide_eq_true h]; exact beq_iff_eq.2 (by omega)
  · rw [decide_eq_false h]; exact beq_eq_false_iff_ne.2 (by omega)
theorem str_eqb (a b : ByteArray) : (a.toList == b.toList) = decide (a = b) := by
  rw [beq_data]
  by_cases h : a = b
  · subst h; simp
  · rw [decide_eq_false h]; exact decide_eq_false (fun e => h (ba_ext e))
theorem str_lit (y : ByteArray) (a : Array UInt8) : (y.toList == a.toList) = decide (y = ⟨a⟩) := by
  have h := str_eqb y ⟨a⟩
  rw [Lib.toList_data ⟨a⟩] at h
  exact h
def strV (s : ByteArray) : List Value := [.string s]
theorem strV_len (s : ByteArray) : (strV s).length = 1 := rfl
theorem strV_one : ∀ (x : ByteArray), ∀ u ∈ strV x, u.oneCell' = true := fun x u hu => by
  simp only [strV, List.mem_cons, List.not_mem_nil, or_false] at hu
  rcases hu with rfl
  rfl
theorem eltS : Elt 23 9 1 16 strV := ⟨Tryd.underlying23, by kernel_rfl, info_elt (by kernel_rfl), by decide, strV_one⟩
theorem LF_str (l : List ByteArray) : LF strV l = l.map Value.string := by
  induction l with
  | nil => rfl
  | cons x l ih => show strV x ++ LF strV l = _; rw [ih]; rfl
theorem ib_or (l : List UInt8) (c : UInt8) : Lib.indexByte l c = -1 ∨ ∃ n : Nat, n < l.length ∧ Lib.indexByte l c = n := by
  have h := Lib.indexByte_ge l c
  rcases (by omega : Lib.indexByte l c = -1 ∨ 0 ≤ Lib.indexByte l c) with h | h
  · exact .inl h
  · obtain ⟨n, hn⟩ := Int.eq_ofNat_of_zero_le h
    exact .inr ⟨n, (List.getElem?_eq_some_iff.1 (Lib.indexByte_some hn).1).1, hn⟩
theorem ia_or (cs : List UInt8) : ∀ (l : List UInt8), Lib.indexAny l cs = -1 ∨ ∃ n : Nat, n < l.length ∧ Lib.indexAny l cs = n
  | [] => .inl rfl
  | b :: l => by
    unfold Lib.indexAny
    split
    · exact .inr ⟨0, by simp, rfl⟩
    · rcases ia_or cs l with h | ⟨n, hn, h⟩
      · exact .inl (by rw [h]; rfl)
      · refine .inr ⟨n + 1, by simpa using hn, ?_⟩
        rw [h, if_neg (by rw [beq_iff_eq]; omega)]
        rfl
theorem below_drewN {B : Nat} {a w : World} (h : Below B a w) (n : Nat) : Below B a (w.drewN n) := h.trans ⟨rfl, rfl, rfl, Nat.le_refl _, fun _ _ => rfl⟩
theorem ne_of_eqb {α : Type} [BEq α] {a b : α} {r : Bool} (h : (a == b) = r) : (a != b) = !r := by rw [bne, h]
theorem lat_shape {n : Nat} {X : Type} {fl : X → List Value} {w : World} {v : Value} {l : List X} (h : LAt n fl w v l) : ∃ p cap, v = .slice p l.length cap ∧ (0 < l.length → ∃ b off, p = some ⟨b, off, none⟩) := by
  rcases h.2 with ⟨p, cap, hv, rfl⟩ | ⟨b', off', cap', hv, _⟩
  · exact ⟨p, cap, hv, fun h => by cases h⟩
  · exact ⟨_, _, hv, fun _ => ⟨_, _, rfl⟩⟩
theorem lat_len {n : Nat} {X : Type} {fl : X → List Value} {w : World} {v : Value} {l : List X} (h : LAt n fl w v l) : l.length ≤ maxLen := by
  rcases h.2 with ⟨p, cap, hv, rfl⟩ | ⟨b, off, cap, hv, _, h3, h4, _⟩
  · exact Nat.zero_le _
  · exact Nat.le_trans h3 h4
theorem str_cell {w : World} {b off cap n_ : Nat} {l : List ByteArray} (h : LAt 1 strV w (.slice (some ⟨b, off, none⟩) n_ cap) l) {i : Nat} {x : ByteArray} (hx : l[i]? = some x) :
    b < w.heap.size ∧ w.cell? ⟨b, off + i, none⟩ = some (.string x) := by
  obtain ⟨hl, h⟩ := h
  rcases h with ⟨p, cap, hv, rfl⟩ | ⟨b', off', cap', hv, hb, hcap, hmax, hcell⟩
  · simp at hx
  · injection hv with hv1 hv2 hv3
    injection hv1 with hv1
    injection hv1 with hv4 hv5
    subst hv4; subst hv5
    refine ⟨hb, ?_⟩
    have := hcell (i * 1 + 0) (.string x) (by rw [LF_at l (fun y _ => strV_len y) i x hx 0 (by omega)]; rfl)
    rw [Nat.mul_one, Nat.add_zero] at this
    exact this
theorem str_load {w : World} {b off cap n_ : Nat} {l : List ByteArray} (h : LAt 1 strV w (.slice (some ⟨b, off, none⟩) n_ cap) l) {i : Nat} {x : ByteArray} (hx : l[i]? = some x) :
    b < w.heap.size ∧ ∀ w1, Below w.heap.size w w1 → (loadVar 9 ⟨b, off + i, none⟩).run Tryd.prog w1 = .ok (.string x) w1 := by
  obtain ⟨h1, h2⟩ := str_cell h hx
  refine ⟨h1, fun w1 hB => ?_⟩
  have hc := (hB.cell (p := ⟨b, off + i, none⟩) h1).trans h2
  simp [go_sem, hc]
/-- v is a list of strings in memory: of none, or a row of cells. -/
def Strs (w : World) (v : Value) (ss : List ByteArray) : Prop :=
  ((∃ p cap, v = .slice p 0 cap) ∧ ss = []) ∨
  ∃ b off cap, v = .slice (some ⟨b, off, none⟩) ss.length cap ∧ ss.length ≤ cap ∧ cap ≤ maxLen ∧ b < w.heap.size ∧ ∀ i, i < ss.length → w.cell? ⟨b, off + i, none⟩ = some (.string (ss.getD i ByteArray.empty))

theorem Strs.below {w w' : World} {v : Value} {ss : List ByteArray} (h : Strs w v ss) (hB : Below w.heap.size w w') : Strs w' v ss := by
  rcases h with h | ⟨b, off, cap, hv, hl, hc, hb, hcell⟩
  · exact .inl h
  · exact .inr ⟨b, off, cap, hv, hl, hc, Nat.lt_of_lt_of_le hb hB.size, fun i hi => by rw [hB.cell (p := ⟨b, off + i, none⟩) hb]; exact hcell i hi⟩

theorem Strs.ofRow {w : World} {base : Nat} {v : Value} {ss : List ByteArray} {n : Nat} (h : w.ownsRow base 9 1 v n (ss.map Value.string)) : Strs w v ss := by
  have hlen : ss.length = n := by have := h.1; simpa using this
  rcases h.2 with ⟨hv, hn⟩ | ⟨g, cap, cur, hv, _, hg, hcap, hmax, hsz, htake⟩
  · exact .inl ⟨⟨_, _, hv⟩, List.eq_nil_of_length_eq_zero (by omega)⟩
  · refine .inr ⟨g, 0, cap, by rw [hlen]; exact hv, by omega, hmax, lt_of_block hg, fun i hi => ?_⟩
    rw [block_cell hg]
    have e : (cur.toList.take (n * 1))[i]? = (ss.map Value.string)[i]? := by rw [htake]
    rw [List.getElem?_take_of_lt (by omega), List.getElem?_map, List.getElem?_eq_getElem hi] at e
    simpa [List.getD, hi] using e

theorem strs_weights {H : Type} {P : Program} (e : TypeId) : ∀ (l : List ByteArray), ∀ s ∈ l, s.size ∈ DataW.weightsAll P e (ChangeShapes.strs l : List (DataW H)) := by
  intro l
  induction l with
  | nil => intro s h; cases h
  | cons a r ih =>
    intro s h
    simp only [ChangeShapes.strs, List.map_cons, DataW.weightsAll, List.mem_append]
    rcases List.mem_cons.1 h with rfl | h
    · left; simp [DataW.weights]
    · right; exact ih s h

/-- A list of strings that came in. -/
theorem strs_open {H : Type} {enc : TypeId × Value → H} {P : Program} {W : World} {base : Nat} {t e : TypeId} (ht : P.underlying t = some (.slice e)) (he : P.underlying e = some .string) (hc : P.cellsOf e = 1)
    {a : Option Addr} {len cap fuel : Nat} {d : DataW H} {p : List MemPlace} (hf : DataW.trod enc P W base (fun _ => true) true fuel t (Value.slice a len cap).cells.toList = some (d, p)) (hw : ∀ n ∈ d.weights P t, n ≤ 140737488351232) (hlt : ∀ x ∈ p, x.block < W.heap.size) :
    ∃ ss, Strs W (.slice a len cap) ss ∧ (∀ s ∈ ss, s.size ≤ 140737488351232) ∧ ss.length ≤ 9223372036854775807 := by
  rcases ChangeShapes.open_strings ht he hc hf with ⟨hcs, _⟩ | ⟨x, l, c, ss, hcs, _, hl, hm, hz, hx, hcell, hwz⟩
  · simp [Value.cells] at hcs
    obtain ⟨rfl, rfl, rfl⟩ := hcs
    exact ⟨[], .inl ⟨⟨_, _, rfl⟩, rfl⟩, by simp, by simp⟩
  · simp [Value.cells] at hcs
    obtain ⟨rfl, rfl, rfl⟩ := hcs
    simp only [Prod.mk.injEq] at hx
    obtain ⟨rfl, rfl⟩ := hx
    have hz' : ss.length = cap := by simpa using hz
    have hsz : ∀ s ∈ ss.take len, s.size ≤ 140737488351232 := fun s hs => hw _ (by
      simp only [DataW.weights, ht, List.mem_cons, List.mem_append]
      right; left; exact strs_weights e _ s hs)
    have hlen : (ss.take len).length = len := by rw [List.length_take]; omega
    refine ⟨ss.take len, ?_, hsz, by rw [hlen]; unfold maxLen at hm; omega⟩
    by_cases h0 : len = 0
    · subst h0; exact .inl ⟨⟨_, _, rfl⟩, by simp⟩
    · obtain ⟨b, off, spot⟩ := x
      have hc0 := hcell 0 (by omega)
      have hspot : spot = none := by simpa [Addr.add] using World.cell?_spot hc0
      subst hspot
      refine .inr ⟨b, off, cap, by rw [hlen], by rw [hlen]; exact hl, hm, ?_, fun i hi => ?_⟩
      · have := World.block_lt_of_cell? W _ hc0
        simpa [Addr.add] using this
      · have := hcell i (by omega)
        rw [hlen] at hi
        have e : (⟨b, off, none⟩ : Addr).add i = ⟨b, off + i, none⟩ := by unfold Addr.add; split <;> simp_all
        rw [e] at this
        simpa [List.getD, List.getElem?_take_of_lt hi] using this


theorem strs_shape {w : World} {v : Value} {ss : List ByteArray} (h : Strs w v ss) : ∃ p cap, v = .slice p ss.length cap ∧ (0 < ss.length → ∃ b off, p = some ⟨b, off, none⟩ ∧ b < w.heap.size ∧ ∀ i (h : i < ss.length), w.cell? ⟨b, off + i, none⟩ = some (.string ss[i])) := by
  rcases h with ⟨⟨p, cap, rfl⟩, rfl⟩ | ⟨b, off, cap, rfl, _, _, hb, hc⟩
  · exact ⟨p, cap, rfl, fun h => absurd h (Nat.lt_irrefl _)⟩
  · refine ⟨_, cap, rfl, fun _ => ⟨b, off, rfl, hb, fun i hi => ?_⟩⟩
    have := hc i hi
    rw [List.getD_eq_getElem?_getD, List.getElem?_eq_getElem hi] at this
    exact this
theorem strs_lat {w : World} {v : Value} {ss : List ByteArray} (h : Strs w v ss) : LAt 1 strV w v ss := by
  refine ⟨fun x _ => rfl, ?_⟩
  rcases h with h | ⟨b, off, cap, rfl, h1, h2, hb, hc⟩
  · obtain ⟨⟨p, cap, rfl⟩, rfl⟩ := h
    exact .inl ⟨p, cap, rfl, rfl⟩
  · refine .inr ⟨b, off, cap, rfl, hb, h1, h2, fun j x hx => ?_⟩
    rw [LF_str, List.getElem?_map] at hx
    cases hs : ss[j]? with
    | none => rw [hs] at hx; cases hx
    | some y =>
      rw [hs] at hx
      obtain ⟨hj, hy⟩ := List.getElem?_eq_some_iff.1 hs
      have := hc j hj
      rw [List.getD_eq_getElem?_getD, hs] at this
      rw [this]
      simpa using hx
theorem own_sliceS {w : World} {base : Nat} {v : Value} {n : Nat} {xs : List Value} (h : w.ownsRow base 9 1 v n xs) : ∃ p c, v = .slice p n c := by
  rcases h.2 with ⟨h1, h2⟩ | ⟨g, cap, cur, hv, _⟩
  · subst h1; exact ⟨none, 0, by rw [h2]⟩
  · exact ⟨_, cap, hv⟩
end Go.Proofs.YtkmachhfibcdlaaDoor
