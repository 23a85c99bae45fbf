/- Walks: lists of texts as arguments; two headers whose imports' places are set to nought. -/
import Derived.Test.YtejogobhnbjpdaaDoorUd
import Derived.Test.YtejogobhnbjpdaaDoorXr
import Derived.Test.YtejogobhnbjpdaaDoorLd
import Derived.SliceStrings
namespace Go.Proofs.YtejogobhnbjpdaaDoor
set_option linter.unusedVariables false
set_option linter.unusedSimpArgs false
open Go.ChangeShapes Go.WideShapes Go.ChangeAt Go.RowKit

/-- v is a list of strings in memory: of none, or a row of cells. -/
def Strs (w : World) (v : Value) (ss : List ByteArray) : Prop :=
  ((∃ p cap, v = .slice p 0 cap) ∧ ss = []) ∨
  ∃ b off cap, v = .slice (some ⟨b, off, none⟩) ss.length cap ∧ ss.length ≤ cap ∧ cap ≤ maxLen ∧ b < w.heap.size ∧ ∀ i, i < ss.length → w.cell? ⟨b, off + i, none⟩ = some (.string (ss.getD i ByteArray.empty))

theorem Strs.below {w w' : World} {v : Value} {ss : List ByteArray} (h : Strs w v ss) (hB : Below w.heap.size w w') : Strs w' v ss := by
  rcases h with h | ⟨b, off, cap, hv, hl, hc, hb, hcell⟩
  · exact .inl h
  · exact .inr ⟨b, off, cap, hv, hl, hc, Nat.lt_of_lt_of_le hb hB.size, fun i hi => by rw [hB.cell (p := ⟨b, off + i, none⟩) hb]; exact hcell i hi⟩

theorem Strs.ofRow {w : World} {base : Nat} {v : Value} {ss : List ByteArray} {n : Nat} (h : w.ownsRow base 9 1 v n (ss.map Value.string)) : Strs w v ss := by
  have hlen : ss.length = n := by have := h.1; simpa using this
  rcases h.2 with ⟨hv, hn⟩ | ⟨g, cap, cur, hv, _, hg, hcap, hmax, hsz, htake⟩
  · exact .inl ⟨⟨_, _, hv⟩, List.eq_nil_of_length_eq_zero (by omega)⟩
  · refine .inr ⟨g, 0, cap, by rw [hlen]; exact hv, by omega, hmax, lt_of_block hg, fun i hi => ?_⟩
    rw [block_cell hg]
    have e : (cur.toList.take (n * 1))[i]? = (ss.map Value.string)[i]? := by rw [htake]
    rw [List.getElem?_take_of_lt (by omega), List.getElem?_map, List.getElem?_eq_getElem hi] at e
    simpa [List.getD, hi] using e

theorem strs_weights {H : Type} {P : Program} (e : TypeId) : ∀ (l : List ByteArray), ∀ s ∈ l, s.size ∈ DataW.weightsAll P e (ChangeShapes.strs l : List (DataW H)) := by
  intro l
  induction l with
  | nil => intro s h; cases h
  | cons a r ih =>
    intro s h
    simp only [ChangeShapes.strs, List.map_cons, DataW.weightsAll, List.mem_append]
    rcases List.mem_cons.1 h with rfl | h
    · left; simp [DataW.weights]
    · right; exact ih s h

/-- A list of strings that came in. -/
theorem strs_open {H : Type} {enc : TypeId × Value → H} {P : Program} {W : World} {base : Nat} {t e : TypeId} (ht : P.underlying t = some (.slice e)) (he : P.underlying e = some .string) (hc : P.cellsOf e = 1)
    {a : Option Addr} {len cap fuel : Nat} {d : DataW H} {p : List MemPlace} (hf : DataW.trod enc P W base (fun _ => true) true fuel t (Value.slice a len cap).cells.toList = some (d, p)) (hw : ∀ n ∈ d.weights P t, n ≤ 140737488351232) (hlt : ∀ x ∈ p, x.block < W.heap.size) :
    ∃ ss, Strs W (.slice a len cap) ss ∧ (∀ s ∈ ss, s.size ≤ 140737488351232) ∧ ss.length ≤ 9223372036854775807 := by
  rcases ChangeShapes.open_strings ht he hc hf with ⟨hcs, _⟩ | ⟨x, l, c, ss, hcs, _, hl, hm, hz, hx, hcell, hwz⟩
  · simp [Value.cells] at hcs
    obtain ⟨rfl, rfl, rfl⟩ := hcs
    exact ⟨[], .inl ⟨⟨_, _, rfl⟩, rfl⟩, by simp, by simp⟩
  · simp [Value.cells] at hcs
    obtain ⟨rfl, rfl, rfl⟩ := hcs
    simp only [Prod.mk.injEq] at hx
    obtain ⟨rfl, rfl⟩ := hx
    have hz' : ss.length = cap := by simpa using hz
    have hsz : ∀ s ∈ ss.take len, s.size ≤ 140737488351232 := fun s hs => hw _ (by
      simp only [DataW.weights, ht, List.mem_cons, List.mem_append]
      right; left; exact strs_weights e _ s hs)
    have hlen : (ss.take len).length = len := by rw [List.length_take]; omega
    refine ⟨ss.take len, ?_, hsz, by rw [hlen]; unfold maxLen at hm; omega⟩
    by_cases h0 : len = 0
    · subst h0; exact .inl ⟨⟨_, _, rfl⟩, by simp⟩
    · obtain ⟨b, off, spot⟩ := x
      have hc0 := hcell 0 (by omega)
      have hspot : spot = none := by simpa [Addr.add] using World.cell?_spot hc0
      subst hspot
      refine .inr ⟨b, off, cap, by rw [hlen], by rw [hlen]; exact hl, hm, ?_, fun i hi => ?_⟩
      · have := World.block_lt_of_cell? W _ hc0
        simpa [Addr.add] using this
      · have := hcell i (by omega)
        rw [hlen] at hi
        have e : (⟨b, off, none⟩ : Addr).add i = ⟨b, off + i, none⟩ := by unfold Addr.add; split <;> simp_all
        rw [e] at this
        simpa [List.getD, List.getElem?_take_of_lt hi] using this


theorem strs_shape {w : World} {v : Value} {ss : List ByteArray} (h : Strs w v ss) : ∃ p cap, v = .slice p ss.length cap ∧ (0 < ss.length → ∃ b off, p = some ⟨b, off, none⟩ ∧ b < w.heap.size ∧ ∀ i (h : i < ss.length), w.cell? ⟨b, off + i, none⟩ = some (.string ss[i])) := by
  rcases h with ⟨⟨p, cap, rfl⟩, rfl⟩ | ⟨b, off, cap, rfl, _, _, hb, hc⟩
  · exact ⟨p, cap, rfl, fun h => absurd h (Nat.lt_irrefl _)⟩
  · refine ⟨_, cap, rfl, fun _ => ⟨b, off, rfl, hb, fun i hi => ?_⟩⟩
    have := hc i hi
    rw [List.getD_eq_getElem?_getD, List.getElem?_eq_getElem hi] at this
    exact this
set_option maxRecDepth 100000 in
set_option maxHeartbeats 2000000 in
theorem plainW_any (s : ByteArray) (w : World) (hs : s.size ≤ 1000000000000000) : Calls Tryd.prog 23 #[.string s] w (PlainEnd s w) := by
  go_enter Tryd.func23, Tryd.ntmps23
  go_wp2_with fail
  go_loopg [3] s.size (fun g iv wr => ∃ k : Nat, k + g = s.size ∧ iv = .int .i64 k ∧ Hid (∀ i, i < k → alnum (byt s i) = true) ∧ wr = w)
  case atStart => exact ⟨0, by omega, rfl, Lib.hid (fun i h => absurd h (Nat.not_lt_zero _)), rfl⟩
  case round =>
    obtain ⟨k, hkg, rfl, HA, rfl⟩ := hrel
    by_cases hk : k < s.size
    case neg =>
      have hkI : ¬ (k : Int) < (s.size : Int) := by omega
      have HA2 := Lib.hid (show ∀ i, i < s.size → alnum (byt s i) = true from fun i hi => HA.out i (by omega))
      have hpe : (s.toList == ([] : List UInt8)) = decide (s = ⟨#[]⟩) := str_lit s #[]
      by_cases h0 : s = ⟨#[]⟩
      · rw [decide_eq_true h0] at hpe
        have hpn : (s.toList != ([] : List UInt8)) = false := by rw [bne, hpe]; rfl
        have HF := Lib.hid (show ¬ plainP s from fun h => h.2.1 h0)
        clear h0
        go_wp2_with fail
        go_ret
        exact ⟨⟨false, rfl, fun h => (by cases h), fun h => absurd h HF.out⟩, rfl⟩
      rw [decide_eq_false h0] at hpe
      have hpn : (s.toList != ([] : List UInt8)) = true := by rw [bne, hpe]; rfl
      by_cases h1 : s.size ≤ 100
      · have h1I : (s.size : Int) ≤ 100 := by omega
        have HT := Lib.hid (show plainP s from ⟨HA2.out, h0, h1⟩)
        clear h0
        go_wp2_with fail
        go_ret
        exact ⟨⟨true, rfl, fun _ => HT.out, fun _ => rfl⟩, rfl⟩
      · have h1I : ¬ (s.size : Int) ≤ 100 := by omega
        have HF := Lib.hid (show ¬ plainP s from fun h => h1 h.2.2)
        clear h0
        go_wp2_with fail
        go_ret
        exact ⟨⟨false, rfl, fun h => (by cases h), fun h => absurd h HF.out⟩, rfl⟩
    have hkI : (k : Int) < (s.size : Int) := by omega
    have hb := byt_atP s k hk
    have HC := Lib.hid (show ∀ c, byt s k = c → alnum c = false → ¬ plainP s from fun c hc h hp => by
      have := hp.1 k hk
      rw [hc, h] at this
      cases this)
    have HG := Lib.hid (show ∀ c, byt s k = c → alnum c = true → ∀ i, i < k + 1 → alnum (byt s i) = true from fun c hc h i hi => by
      by_cases he : i = k
      · rw [he, hc]; exact h
      · exact HA.out i (by omega))
    rw [← hb] at HC HG
    obtain ⟨c, hc0⟩ : ∃ c, (s[k]'hk).toNat = c := ⟨_, rfl⟩
    rcases (by omega : c < 48 ∨ (48 ≤ c ∧ c ≤ 57) ∨ (58 ≤ c ∧ c ≤ 64) ∨ (65 ≤ c ∧ c ≤ 90) ∨ (91 ≤ c ∧ c ≤ 96) ∨ (97 ≤ c ∧ c ≤ 122) ∨ 123 ≤ c) with hc | hc | hc | hc | hc | hc | hc
    · have t97 : ¬ (97 : Int) ≤ ((s[k]'hk).toNat : Int) := by omega
      have t122 : ((s[k]'hk).toNat : Int) ≤ (122 : Int) := by omega
      have t65 : ¬ (65 : Int) ≤ ((s[k]'hk).toNat : Int) := by omega
      have t90 : ((s[k]'hk).toNat : Int) ≤ (90 : Int) := by omega
      have t48 : ¬ (48 : Int) ≤ ((s[k]'hk).toNat : Int) := by omega
      have t57 : ((s[k]'hk).toNat : Int) ≤ (57 : Int) := by omega
      have hal : alnum c = false := by unfold alnum; simp; omega
      have HF := Lib.hid (HC.out c hc0 hal)
      clear HC HG hal hb hc0 hc
      go_wp2_with fail
      go_ret
      exact ⟨⟨false, rfl, fun h => (by cases h), fun h => absurd h HF.out⟩, rfl⟩
    · have t97 : ¬ (97 : Int) ≤ ((s[k]'hk).toNat : Int) := by omega
      have t122 : ((s[k]'hk).toNat : Int) ≤ (122 : Int) := by omega
      have t65 : ¬ (65 : Int) ≤ ((s[k]'hk).toNat : Int) := by omega
      have t90 : ((s[k]'hk).toNat : Int) ≤ (90 : Int) := by omega
      have t48 : (48 : Int) ≤ ((s[k]'hk).toNat : Int) := by omega
      have t57 : ((s[k]'hk).toNat : Int) ≤ (57 : Int) := by omega
      have hal : alnum c = true := by unfold alnum; simp; omega
      have HG2 := Lib.hid (HG.out c hc0 hal)
      clear HC HG hal hb hc0 hc
      go_wp2_with fail
      go_roundg (gk - 1)
      case measure => omega
      case rel => exact ⟨k + 1, by omega, by go_num, HG2, rfl⟩
    · have t97 : ¬ (97 : Int) ≤ ((s[k]'hk).toNat : Int) := by omega
      have t122 : ((s[k]'hk).toNat : Int) ≤ (122 : Int) := by omega
      have t65 : ¬ (65 : Int) ≤ ((s[k]'hk).toNat : Int) := by omega
      have t90 : ((s[k]'hk).toNat : Int) ≤ (90 : Int) := by omega
      have t48 : (48 : Int) ≤ ((s[k]'hk).toNat : Int) := by omega
      have t57 : ¬ ((s[k]'hk).toNat : Int) ≤ (57 : Int) := by omega
      have hal : alnum c = false := by unfold alnum; simp; omega
      have HF := Lib.hid (HC.out c hc0 hal)
      clear HC HG hal hb hc0 hc
      go_wp2_with fail
      go_ret
      exact ⟨⟨false, rfl, fun h => (by cases h), fun h => absurd h HF.out⟩, rfl⟩
    · have t97 : ¬ (97 : Int) ≤ ((s[k]'hk).toNat : Int) := by omega
      have t122 : ((s[k]'hk).toNat : Int) ≤ (122 : Int) := by omega
      have t65 : (65 : Int) ≤ ((s[k]'hk).toNat : Int) := by omega
      have t90 : ((s[k]'hk).toNat : Int) ≤ (90 : Int) := by omega
      have t48 : (48 : Int) ≤ ((s[k]'hk).toNat : Int) := by omega
      have t57 : ¬ ((s[k]'hk).toNat : Int) ≤ (57 : Int) := by omega
      have hal : alnum c = true := by unfold alnum; simp; omega
      have HG2 := Lib.hid (HG.out c hc0 hal)
      clear HC HG hal hb hc0 hc
      go_wp2_with fail
      go_roundg (gk - 1)
      case measure => omega
      case rel => exact ⟨k + 1, by omega, by go_num, HG2, rfl⟩
    · have t97 : ¬ (97 : Int) ≤ ((s[k]'hk).toNat : Int) := by omega
      have t122 : ((s[k]'hk).toNat : Int) ≤ (122 : Int) := by omega
      have t65 : (65 : Int) ≤ ((s[k]'hk).toNat : Int) := by omega
      have t90 : ¬ ((s[k]'hk).toNat : Int) ≤ (90 : Int) := by omega
      have t48 : (48 : Int) ≤ ((s[k]'hk).toNat : Int) := by omega
      have t57 : ¬ ((s[k]'hk).toNat : Int) ≤ (57 : Int) := by omega
      have hal : alnum c = false := by unfold alnum; simp; omega
      have HF := Lib.hid (HC.out c hc0 hal)
      clear HC HG hal hb hc0 hc
      go_wp2_with fail
      go_ret
      exact ⟨⟨false, rfl, fun h => (by cases h), fun h => absurd h HF.out⟩, rfl⟩
    · have t97 : (97 : Int) ≤ ((s[k]'hk).toNat : Int) := by omega
      have t122 : ((s[k]'hk).toNat : Int) ≤ (122 : Int) := by omega
      have t65 : (65 : Int) ≤ ((s[k]'hk).toNat : Int) := by omega
      have t90 : ¬ ((s[k]'hk).toNat : Int) ≤ (90 : Int) := by omega
      have t48 : (48 : Int) ≤ ((s[k]'hk).toNat : Int) := by omega
      have t57 : ¬ ((s[k]'hk).toNat : Int) ≤ (57 : Int) := by omega
      have hal : alnum c = true := by unfold alnum; simp; omega
      have HG2 := Lib.hid (HG.out c hc0 hal)
      clear HC HG hal hb hc0 hc
      go_wp2_with fail
      go_roundg (gk - 1)
      case measure => omega
      case rel => exact ⟨k + 1, by omega, by go_num, HG2, rfl⟩
    · have t97 : (97 : Int) ≤ ((s[k]'hk).toNat : Int) := by omega
      have t122 : ¬ ((s[k]'hk).toNat : Int) ≤ (122 : Int) := by omega
      have t65 : (65 : Int) ≤ ((s[k]'hk).toNat : Int) := by omega
      have t90 : ¬ ((s[k]'hk).toNat : Int) ≤ (90 : Int) := by omega
      have t48 : (48 : Int) ≤ ((s[k]'hk).toNat : Int) := by omega
      have t57 : ¬ ((s[k]'hk).toNat : Int) ≤ (57 : Int) := by omega
      have hal : alnum c = false := by unfold alnum; simp; omega
      have HF := Lib.hid (HC.out c hc0 hal)
      clear HC HG hal hb hc0 hc
      go_wp2_with fail
      go_ret
      exact ⟨⟨false, rfl, fun h => (by cases h), fun h => absurd h HF.out⟩, rfl⟩

/-- Letters and digits. -/
theorem aln_of {x : ByteArray} (h : ∀ i, i < x.size → alnum (byt x i) = true) : Aln x := fun c hc => by
  obtain ⟨i, hi, he⟩ := List.mem_iff_getElem.1 hc
  have hs : i < x.size := by rw [Lib.size_eq]; exact hi
  have h1 := h i hs
  have h2 : x.get! i = c := by
    have := byt_list hs
    rw [List.getElem?_eq_getElem hi, he] at this
    injection this with this
    exact this.symm
  unfold byt at h1
  rw [h2] at h1
  unfold alnum at h1
  unfold alnC
  simpa using h1
theorem plain_aln {x : ByteArray} (h : plainP x) : Aln x ∧ x ≠ ⟨#[]⟩ := ⟨aln_of h.1, h.2.1⟩
theorem plain_x {nt : ByteArray} (h : plainP ((⟨#[120]⟩ : ByteArray) ++ nt)) : (∀ c ∈ nt.data.toList, alnC c = true) ∧ nt.size ≤ 99 := by
  have h1 := aln_of h.1
  refine ⟨fun c hc => h1 c ?_, ?_⟩
  · simp only [ByteArray.data_append, Array.toList_append]
    exact List.mem_append_right _ hc
  · have := h.2.2
    rw [ByteArray.size_append] at this
    have e : (⟨#[120]⟩ : ByteArray).size = 1 := rfl
    omega
theorem key_of {x : ByteArray} (h1 : x ≠ ⟨#[98, 114, 101, 97, 107]⟩) (h2 : x ≠ ⟨#[99, 111, 110, 116, 105, 110, 117, 101]⟩) (h3 : x ≠ ⟨#[102, 97, 108, 108, 116, 104, 114, 111, 117, 103, 104]⟩) (h4 : x ≠ ⟨#[114, 101, 116, 117, 114, 110]⟩) (hj : joinsB x = false) : keyB x = false := by
  unfold keyB
  rw [hj, Bool.or_false]
  apply Bool.eq_false_iff.2
  intro h
  have h := List.elem_iff.1 h
  unfold kw4 at h
  simp only [List.mem_cons, List.not_mem_nil, or_false] at h
  rcases h with h | h | h | h
  · exact h1 (ba_ext h)
  · exact h2 (ba_ext h)
  · exact h3 (ba_ext h)
  · exact h4 (ba_ext h)

/-! Two headers whose imports' places are set to nought. -/
def imZ (t : Im) : Im := (t.1, t.2.1, 0)
def zK (I : List Im) (k : Nat) : List Im := (I.take k).map imZ ++ I.drop k
theorem zK_zero (I : List Im) : zK I 0 = I := by simp [zK]
theorem zK_all (I : List Im) {k : Nat} (h : I.length ≤ k) : zK I k = I.map imZ := by
  unfold zK; rw [List.take_of_length_le h, List.drop_of_length_le h, List.append_nil]
theorem zK_len (I : List Im) (k : Nat) : (zK I k).length = I.length := by
  unfold zK
  rw [List.length_append, List.length_map, List.length_take, List.length_drop]; omega
theorem zK_get (I : List Im) {k : Nat} (h : k < I.length) : (zK I k)[k]? = some I[k] := by
  unfold zK
  rw [List.getElem?_append_right (by rw [List.length_map, List.length_take]; omega), List.length_map, List.length_take, Nat.min_eq_left (by omega), Nat.sub_self, List.getElem?_drop, Nat.add_zero, List.getElem?_eq_getElem h]
theorem zK_succ (I : List Im) {k : Nat} (h : k < I.length) : (LF imV (zK I k)).set (k * 3 + 2) (.int .i64 0) = LF imV (zK I (k + 1)) := by
  have hl : ((I.take k).map imZ).length = k := by rw [List.length_map, List.length_take]; omega
  have e1 : zK I k = (I.take k).map imZ ++ I[k] :: I.drop (k + 1) := by unfold zK; rw [List.drop_eq_getElem_cons h]
  have e2 : zK I (k + 1) = (I.take k).map imZ ++ imZ I[k] :: I.drop (k + 1) := by
    unfold zK
    rw [List.take_succ_eq_append_getElem h, List.map_append, List.append_assoc]
    rfl
  have := LF_set2 ((I.take k).map imZ) (I.drop (k + 1)) I[k] 0
  rw [hl] at this
  rw [e1, e2]
  exact this
theorem imZ_map {I J : List Im} (h : I.map nmOf = J.map nmOf) : I.map imZ = J.map imZ := by
  have e : ∀ I : List Im, I.map imZ = (I.map nmOf).map fun x => (x.1, x.2, 0) := fun I => by rw [List.map_map]; rfl
  rw [e I, e J, h]
/-- The law's world, k1 and k2 of the headers' places set. -/
structure BkSt (w0 : World) (n1 n2 : Nat) (nm : ByteArray) (pi1 pe1 pi2 pe2 : Option Addr) (ci1 ce1 ci2 ce2 len : Nat) (I1 I2 : List Im) (k1 k2 : Nat) (w : World) : Prop where
  x1 : w.heap[n1]? = some (.cells #[.string nm, .slice pi1 len ci1, .string ⟨#[]⟩, .slice pe1 0 ce1, .int .i64 0, .int .i64 0] 41 (0, 0))
  x2 : w.heap[n2]? = some (.cells #[.string nm, .slice pi2 len ci2, .string ⟨#[]⟩, .slice pe2 0 ce2, .int .i64 0, .int .i64 0] 41 (0, 0))
  o1 : w.ownsRow w0.heap.size 44 3 (.slice pi1 len ci1) len (LF imV (zK I1 k1))
  o2 : w.ownsRow w0.heap.size 44 3 (.slice pi2 len ci2) len (LF imV (zK I2 k2))
  d1 : ∀ g, (Value.slice pi1 len ci1).ownBlock = some g → g ≠ n1 ∧ g ≠ n2 ∧ (Value.slice pi2 len ci2).ownBlock ≠ some g
  d2 : ∀ g, (Value.slice pi2 len ci2).ownBlock = some g → g ≠ n1 ∧ g ≠ n2
  b : Below w0.heap.size w0 w
section
variable {w0 : World} {n1 n2 : Nat} {nm : ByteArray} {pi1 pe1 pi2 pe2 : Option Addr} {ci1 ce1 ci2 ce2 len : Nat} {I1 I2 : List Im} {k k1 k2 : Nat} {w : World}
theorem BkSt.step1 (h : BkSt w0 n1 n2 nm pi1 pe1 pi2 pe2 ci1 ce1 ci2 ce2 len I1 I2 k k2 w) (hl : len = I1.length) (hk : k < I1.length) :
    ∃ g, pi1 = some ⟨g, 0, none⟩ ∧ w.cell? ⟨g, k * 3 + 2, none⟩ = some (.int .i64 (I1[k].2.2 : Nat)) ∧ w.frozen? ⟨g, k * 3 + 2, none⟩ = false ∧ BkSt w0 n1 n2 nm pi1 pe1 pi2 pe2 ci1 ce1 ci2 ce2 len I1 I2 (k + 1) k2 (w.setCell ⟨g, k * 3 + 2, none⟩ (.int .i64 0)) := by
  subst hl
  have hL : LAt 3 imV w (.slice pi1 I1.length ci1) (zK I1 k) := by
    have ho := h.o1
    have hle := zK_len I1 k
    exact LAt.own (fun y _ => imV_len y) (by rw [hle]; exact ho)
  rcases h.o1.2 with ⟨hv, hn⟩ | ⟨g, cap, cur, hv, hb, hg, r1, r2, r3, r4⟩
  · exfalso; omega
  injection hv with hv1 hv2 hv3
  subst hv1; subst hv3
  obtain ⟨hgl, _, _, hc⟩ := im_cell hL (zK_get I1 hk)
  rw [Nat.zero_add] at hc
  obtain ⟨d1, d2, d3⟩ := h.d1 g rfl
  refine ⟨g, rfl, hc, block_free hg _, ⟨(set_other d1).trans h.x1, (set_other d2).trans h.x2, ?_, ownsRow_setCell_other h.o2 d3 _, h.d1, h.d2, h.b.setCell (p := ⟨g, k * 3 + 2, none⟩) hb _⟩⟩
  have := own_setIn h.o1 (k * 3 + 2) (.int .i64 0)
  rw [zK_succ I1 hk] at this
  exact this
theorem BkSt.step2 (h : BkSt w0 n1 n2 nm pi1 pe1 pi2 pe2 ci1 ce1 ci2 ce2 len I1 I2 k1 k w) (hl : len = I2.length) (hk : k < I2.length) :
    ∃ g, pi2 = some ⟨g, 0, none⟩ ∧ w.cell? ⟨g, k * 3 + 2, none⟩ = some (.int .i64 (I2[k].2.2 : Nat)) ∧ w.frozen? ⟨g, k * 3 + 2, none⟩ = false ∧ BkSt w0 n1 n2 nm pi1 pe1 pi2 pe2 ci1 ce1 ci2 ce2 len I1 I2 k1 (k + 1) (w.setCell ⟨g, k * 3 + 2, none⟩ (.int .i64 0)) := by
  subst hl
  have hL : LAt 3 imV w (.slice pi2 I2.length ci2) (zK I2 k) := by
    have ho := h.o2
    have hle := zK_len I2 k
    exact LAt.own (fun y _ => imV_len y) (by rw [hle]; exact ho)
  rcases h.o2.2 with ⟨hv, hn⟩ | ⟨g, cap, cur, hv, hb, hg, r1, r2, r3, r4⟩
  · exfalso; omega
  injection hv with hv1 hv2 hv3
  subst hv1; subst hv3
  obtain ⟨hgl, _, _, hc⟩ := im_cell hL (zK_get I2 hk)
  rw [Nat.zero_add] at hc
  obtain ⟨d1, d2⟩ := h.d2 g rfl
  refine ⟨g, rfl, hc, block_free hg _, ⟨(set_other d1).trans h.x1, (set_other d2).trans h.x2, ownsRow_setCell_other h.o1 (fun e => (h.d1 g e).2.2 rfl) _, ?_, h.d1, h.d2, h.b.setCell (p := ⟨g, k * 3 + 2, none⟩) hb _⟩⟩
  have := own_setIn h.o2 (k * 3 + 2) (.int .i64 0)
  rw [zK_succ I2 hk] at this
  exact this
theorem lat_none {w : World} (p : Option Addr) (c : Nat) : LAt 1 strV w (.slice p 0 c) [] := ⟨fun x hx => (by cases hx), .inl ⟨_, _, rfl, rfl⟩⟩
theorem bk_same (h : BkSt w0 n1 n2 nm pi1 pe1 pi2 pe2 ci1 ce1 ci2 ce2 len I1 I2 len len w) (hl1 : len = I1.length) (hl2 : len = I2.length) (hI : I1.map nmOf = I2.map nmOf) (hB : ∀ t ∈ I1, ImB t) (hl : len ≤ 4194304) :
    Calls Tryd.prog 25 #[.agg #[.string nm, .slice pi1 len ci1, .string ⟨#[]⟩, .slice pe1 0 ce1, .int .i64 0, .int .i64 0], .agg #[.string nm, .slice pi2 len ci2, .string ⟨#[]⟩, .slice pe2 0 ce2, .int .i64 0, .int .i64 0]] w fun e w' => e = .returned (.bool true) ∧ Below w.heap.size w w' := by
  have ho1 := h.o1
  have ho2 := h.o2
  rw [zK_all I1 (Nat.le_of_eq hl1.symm)] at ho1
  rw [zK_all I2 (Nat.le_of_eq hl2.symm), ← imZ_map hI] at ho2
  have hlz : (I1.map imZ).length = len := by rw [List.length_map]; exact hl1.symm
  rw [← hlz] at ho1 ho2
  have hL := LAt.own (fun y _ => imV_len y) ho1
  have hR := LAt.own (fun y _ => imV_len y) ho2
  rw [hlz] at hL hR
  have hBz : ∀ t ∈ I1.map imZ, ImB t := fun t ht => by
    obtain ⟨x, hx, rfl⟩ := List.mem_map.1 ht
    obtain ⟨h1, h2, h3⟩ := hB x hx
    exact ⟨h1, h2, Nat.zero_le _⟩
  refine (sameHdr_any ⟨nm, I1.map imZ, ⟨#[]⟩, [], 0, 0⟩ ⟨nm, I1.map imZ, ⟨#[]⟩, [], 0, 0⟩ _ _ w ⟨_, _, rfl, hL, lat_none _ _⟩ ⟨_, _, rfl, hR, lat_none _ _⟩ hBz hBz (by show (I1.map imZ).length ≤ _; omega) (by show (I1.map imZ).length ≤ _; omega)).mono ?_
  rintro e w' ⟨rfl, hB⟩
  refine ⟨?_, hB⟩
  congr 2
  exact decide_eq_true ⟨rfl, rfl, rfl, rfl, rfl, rfl⟩
theorem BkSt.start {w1 w2 w3 : World} (hi1 : w2.ownsRow w1.heap.size 44 3 (.slice pi1 len ci1) len (LF imV I1)) (hi2 : w3.ownsRow w2.heap.size 44 3 (.slice pi2 len ci2) len (LF imV I2))
    (hB2 : Below w0.heap.size w0 w2) (hB : Below w2.heap.size w2 w3) (hs1 : w0.heap.size ≤ w1.heap.size) (pe1 pe2 : Option Addr) (ce1 ce2 : Nat) (nm : ByteArray) :
    BkSt w0 w3.heap.size (w3.heap.size + 1) nm pi1 pe1 pi2 pe2 ci1 ce1 ci2 ce2 len I1 I2 0 0 ((w3.alloc (.cells #[.string nm, .slice pi1 len ci1, .string ⟨#[]⟩, .slice pe1 0 ce1, .int .i64 0, .int .i64 0] 41)).alloc (.cells #[.string nm, .slice pi2 len ci2, .string ⟨#[]⟩, .slice pe2 0 ce2, .int .i64 0, .int .i64 0] 41)) := by
  have hs3 := hB.size
  have hs2 := hB2.size
  have hg1 := fun g hg => hi1.lt g hg
  have hg2 := fun g hg => hi2.lt g hg
  generalize hA : Obj.cells #[.string nm, .slice pi1 len ci1, .string ⟨#[]⟩, .slice pe1 0 ce1, .int .i64 0, .int .i64 0] 41 = A
  generalize hBb : Obj.cells #[.string nm, .slice pi2 len ci2, .string ⟨#[]⟩, .slice pe2 0 ce2, .int .i64 0, .int .i64 0] 41 = Bb
  have hsz : (w3.alloc A).heap.size = w3.heap.size + 1 := by simp
  have hB4 : Below w3.heap.size w3 ((w3.alloc A).alloc Bb) := ((Below.refl _ _).alloc (Nat.le_refl _) _).alloc (by simp) _
  have hBT := hB2.trans ((hB.trans (hB4.mono hs3)).mono hs2)
  refine ⟨?_, ?_, ?_, ?_, ?_, ?_, hBT⟩
  · rw [← hA]
    exact (heap_alloc_old _ _ (show w3.heap.size < _ from by rw [← hA] at hsz; rw [hsz]; omega)).trans (heap_alloc_new w3 _)
  · rw [← hBb]; exact new2 w3 A _
  · rw [zK_zero]
    exact own_le (gen_own_below (gen_own_below hi1 hB) hB4) hs1
  · rw [zK_zero]
    exact own_le (gen_own_below hi2 hB4) hs2
  · intro g hg
    have h1 := hg1 g hg
    refine ⟨by omega, by omega, fun h2 => ?_⟩
    have := hg2 g h2; omega
  · intro g hg
    have h1 := hg2 g hg
    exact ⟨by omega, by omega⟩
end
end Go.Proofs.YtejogobhnbjpdaaDoor
