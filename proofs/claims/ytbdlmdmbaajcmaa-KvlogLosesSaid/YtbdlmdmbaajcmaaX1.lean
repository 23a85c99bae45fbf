/- What the loss of power leaves of a list of records; What a call leaves of the store's file, wherever the power goes; A call of the code while a fuse is laid; Both stores, and other memory beside them; a list of lists; The parts of the statement KvlogLoses. -/
import Derived.Test.YtbdlmdmbaajcmaaWe
import Derived.Test.YtbdlmdmbaajcmaaVi
import Derived.ArgAppend
import Derived.Deep.CutRange
namespace Go.Proofs.Ytbdlmdmbaajcmaa
set_option linter.unusedVariables false
set_option linter.unusedSimpArgs false
open Go.ChangeShapes Go.WideShapes Go.ChangeAt Go.RowKit

theorem le4_congr {a b : List UInt8} (h : ∀ j, j < 4 → a.getD j 0 = b.getD j 0) : G.le4 a = G.le4 b := by
  unfold G.le4
  rw [h 0 (by omega), h 1 (by omega), h 2 (by omega), h 3 (by omega)]
theorem set_getD_ne {l : List UInt8} {i j : Nat} {y : UInt8} (h : i ≠ j) : (l.set i y).getD j 0 = l.getD j 0 := by
  rw [List.getD_eq_getElem?_getD, List.getD_eq_getElem?_getD, List.getElem?_set_ne h]
theorem set_getD_eq {l : List UInt8} {i : Nat} {y : UInt8} (h : i < l.length) : (l.set i y).getD i 0 = y := by
  rw [List.getD_eq_getElem?_getD, List.getElem?_set_self h]
  rfl
theorem take_getD {l : List UInt8} {n j : Nat} (h : j < n) : (l.take n).getD j 0 = l.getD j 0 := by
  rw [List.getD_eq_getElem?_getD, List.getD_eq_getElem?_getD, List.getElem?_take_of_lt h]
theorem drop_getD {l : List UInt8} {n j : Nat} : (l.drop n).getD j 0 = l.getD (n + j) 0 := by
  rw [List.getD_eq_getElem?_getD, List.getD_eq_getElem?_getD, List.getElem?_drop]
theorem app_getD_l {a b : List UInt8} {j : Nat} (h : j < a.length) : (a ++ b).getD j 0 = a.getD j 0 := by
  rw [List.getD_eq_getElem?_getD, List.getD_eq_getElem?_getD, List.getElem?_append_left h]
theorem app_getD_r {a b : List UInt8} {j : Nat} (h : a.length ≤ j) : (a ++ b).getD j 0 = b.getD (j - a.length) 0 := by
  rw [List.getD_eq_getElem?_getD, List.getD_eq_getElem?_getD, List.getElem?_append_right h]
theorem ext_getD {a b : List UInt8} (hl : a.length = b.length) (h : ∀ j, j < a.length → a.getD j 0 = b.getD j 0) : a = b := by
  refine List.ext_getElem hl (fun j h1 h2 => ?_)
  have := h j h1
  rwa [List.getD_eq_getElem?_getD, List.getD_eq_getElem?_getD, List.getElem?_eq_getElem h1, List.getElem?_eq_getElem h2] at this
theorem flip_ne (x : UInt8) : x ^^^ 255 ≠ x := fun h => by
  have h2 := congrArg UInt8.toBitVec h
  simp only [UInt8.toBitVec_xor] at h2
  have h3 := congrArg (fun q => x.toBitVec ^^^ q) h2
  simp only [← BitVec.xor_assoc, BitVec.xor_self, BitVec.zero_xor] at h3
  exact absurd h3 (by decide)
/-- A record of which the last byte that is there is turned isn't whole. -/
theorem whole_turned (s : ByteArray) (c : Nat) (h0 : 0 < c) (h : c ≤ 8 + s.size) (hs : s.size ≤ 65536) (y : UInt8) (hy : y ≠ (G.recL s).getD (c - 1) 0) : G.wholeL (((G.recL s).take c).set (c - 1) y) = none := by
  obtain ⟨t, ht⟩ : ∃ t, t = ((G.recL s).take c).set (c - 1) y := ⟨_, rfl⟩
  rw [← ht]
  have hlr := G.recL_len s
  have hl : t.length = c := by rw [ht, List.length_set, List.length_take, hlr]; omega
  have hg : ∀ j, j < c - 1 → t.getD j 0 = (G.recL s).getD j 0 := fun j hj => by rw [ht, set_getD_ne (by omega), take_getD (by omega)]
  have hlast : t.getD (c - 1) 0 = y := by rw [ht, set_getD_eq (by rw [List.length_take, hlr]; omega)]
  clear ht
  by_cases h8 : c < 8
  · exact G.wholeL_short t (by omega)
  have hle : G.le4 t = s.size := by
    rw [le4_congr (b := G.recL s) (fun j hj => hg j (by omega))]
    unfold G.recL
    rw [List.append_assoc]
    exact G.le4_word _ (by omega) _
  by_cases hc : c < 8 + s.size
  · exact G.wholeL_great2 t (by omega) (.inr (by omega))
  obtain rfl : c = 8 + s.size := by omega
  have hck : G.le4 ((G.recL s).drop 4) = G.crc s.data.toList := by
    unfold G.recL
    rw [List.append_assoc, List.drop_left' (G.wordL_len _)]
    exact G.le4_word _ (G.crc_lt _) _
  have hdat : (G.recL s).drop 8 = s.data.toList := by
    unfold G.recL
    rw [List.drop_left' (by rw [List.length_append, G.wordL_len, G.wordL_len])]
  unfold G.wholeL
  rw [if_neg (by omega), if_neg (by omega), hle]
  by_cases h00 : s.size = 0
  · rw [if_neg]
    intro e
    rw [h00, List.take_zero] at e
    have e1 : s.data.toList = [] := List.eq_nil_of_length_eq_zero (by rw [G.ba_len]; exact h00)
    have e2 := G.word_le4 (t.drop 4) (by rw [List.length_drop]; omega)
    have e3 := G.word_le4 ((G.recL s).drop 4) (by rw [List.length_drop, hlr]; omega)
    rw [hck, e1] at e3
    rw [← e] at e2
    have e5 := congrArg (fun l => l.getD 3 0) (e2.symm.trans e3)
    simp only [take_getD (show 3 < 4 by omega), drop_getD] at e5
    rw [h00] at hlast hy
    exact hy (hlast.symm.trans e5)
  · rw [if_neg]
    intro e
    have hck2 : G.le4 (t.drop 4) = G.crc s.data.toList := by
      rw [← hck]
      exact le4_congr (fun j hj => by rw [drop_getD, drop_getD]; exact hg _ (by omega))
    rw [hck2] at e
    have hsl : s.data.toList.length = s.size := G.ba_len s
    have hat : ∀ j, s.data.toList.getD j 0 = (G.recL s).getD (8 + j) 0 := fun j => by rw [← hdat, drop_getD]
    have hd : (t.drop 8).take s.size = s.data.toList.take (s.size - 1) ++ [y] := by
      refine ext_getD ?_ (fun j hj => ?_)
      · rw [List.length_take, List.length_drop, List.length_append, List.length_take, List.length_singleton]; omega
      · rw [List.length_take, List.length_drop] at hj
        rw [take_getD (by omega), drop_getD]
        by_cases hj2 : j < s.size - 1
        · rw [hg _ (by omega), app_getD_l (by rw [List.length_take]; omega), take_getD hj2, hat]
        · obtain rfl : j = s.size - 1 := by omega
          rw [show 8 + (s.size - 1) = 8 + s.size - 1 by omega, hlast, app_getD_r (by rw [List.length_take]; omega)]
          rw [List.length_take, hsl, show s.size - 1 - min (s.size - 1) s.size = 0 by omega]
          rfl
    have hs2 : s.data.toList = s.data.toList.take (s.size - 1) ++ [s.data.toList.getD (s.size - 1) 0] := by
      refine ext_getD ?_ (fun j hj => ?_)
      · rw [List.length_append, List.length_take, List.length_singleton]; omega
      · by_cases hj2 : j < s.size - 1
        · rw [app_getD_l (by rw [List.length_take]; omega), take_getD hj2]
        · obtain rfl : j = s.size - 1 := by omega
          rw [app_getD_r (by rw [List.length_take]; omega)]
          rw [List.length_take, hsl, show s.size - 1 - min (s.size - 1) s.size = 0 by omega]
          rfl
    rw [hd] at e
    refine G.crc_turned (s.data.toList.take (s.size - 1)) [] y (s.data.toList.getD (s.size - 1) 0) ?_ (e.trans (congrArg G.crc hs2))
    rw [hat, show 8 + (s.size - 1) = 8 + s.size - 1 by omega]
    exact hy
theorem recs_cons (s : ByteArray) (H : List ByteArray) (h1 : s.size ≤ 65536) : (G.recsL (s :: H)).length = 8 + s.size + (G.recsL H).length := by
  simp only [G.recsL]
  rw [if_neg (by omega), List.length_append, G.recL_len]
theorem cut_at : ∀ (H : List ByteArray), (∀ r ∈ H, r.size ≤ 65536) → ∀ n, n < (G.recsL H).length → ∃ (i : Nat) (hi : i < H.length) (c : Nat), n = (G.recsL (H.take i)).length + c ∧ c < 8 + H[i].size
  | [], _, n, hn => by simp [G.recsL] at hn
  | s :: H, hk, n, hn => by
    have h1 := hk s List.mem_cons_self
    rw [recs_cons s H h1] at hn
    by_cases hc : n < 8 + s.size
    · exact ⟨0, by simp, n, by simp [G.recsL], hc⟩
    · obtain ⟨i, hi, c, e, h2⟩ := cut_at H (fun r hr => hk r (List.mem_cons_of_mem _ hr)) (n - (8 + s.size)) (by omega)
      refine ⟨i + 1, by simp; omega, c, ?_, by simpa using h2⟩
      rw [List.take_succ_cons, recs_cons s _ h1]
      omega
theorem recs_at (H : List ByteArray) (i : Nat) (hi : i < H.length) (hk : H[i].size ≤ 65536) : G.recsL H = G.recsL (H.take i) ++ (G.recL H[i] ++ G.recsL (H.drop (i + 1))) := by
  conv => lhs; rw [← List.take_append_drop i H, List.drop_eq_getElem_cons hi]
  rw [G.recsL_append]
  congr 1
  simp only [G.recsL]
  rw [if_neg (by omega)]
theorem recs_mono (H : List ByteArray) {a b : Nat} (h : a ≤ b) : (G.recsL (H.take a)).length ≤ (G.recsL (H.take b)).length := by
  obtain ⟨c, rfl⟩ : ∃ c, b = a + c := ⟨b - a, by omega⟩
  rw [List.take_add, G.recsL_append, List.length_append]
  omega
theorem recs_next (H : List ByteArray) (i : Nat) (hi : i < H.length) (hk : H[i].size ≤ 65536) : (G.recsL (H.take (i + 1))).length = (G.recsL (H.take i)).length + (8 + H[i].size) := by
  rw [List.take_succ_eq_append_getElem hi, G.recsL_append, List.length_append, recs_cons _ _ hk]
  simp [G.recsL]
/-- What was safe is there, and behind it some of the records, and a tail that isn't one. -/
theorem lost (H : List ByteArray) (hk : ∀ r ∈ H, r.size ≤ 65536) (i0 : Nat) (hi0 : i0 ≤ H.length) (keep : Int) (torn : Bool) :
    ∃ i t, i0 ≤ i ∧ i ≤ H.length ∧ loseD keep torn (G.recsL H) (G.recsL (H.take i0)).length = G.recsL (H.take i) ++ t ∧ G.wholeL t = none ∧ (G.recsL (H.take i) ++ t).length ≤ (G.recsL H).length := by
  obtain ⟨s, hs⟩ : ∃ s, s = (G.recsL (H.take i0)).length := ⟨_, rfl⟩
  have hsl : s ≤ (G.recsL H).length := by
    have := recs_mono H hi0
    rwa [List.take_length, ← hs] at this
  have hkn := keptN_le keep (G.recsL H) s
  have hll := loseD_len (keep := keep) (torn := torn) hsl
  rw [← hs]
  have key : ∃ i t, i0 ≤ i ∧ i ≤ H.length ∧ loseD keep torn (G.recsL H) s = G.recsL (H.take i) ++ t ∧ G.wholeL t = none := by
    obtain ⟨k, hkk⟩ : ∃ k, k = keptN keep (G.recsL H) s := ⟨_, rfl⟩
    unfold loseD
    rw [← hkk] at hkn ⊢
    have hge : ∀ i (hi : i < H.length) c n, n = (G.recsL (H.take i)).length + c → c < 8 + H[i].size → s ≤ n → i0 ≤ i := fun i hi c n e hc hn => by
      apply Decidable.byContradiction
      intro hlt
      have h1 := recs_mono H (show i + 1 ≤ i0 by omega)
      rw [recs_next H i hi (hk _ (List.getElem_mem hi)), ← hs] at h1
      omega
    have htk : ∀ i (hi : i < H.length) c, c ≤ 8 + H[i].size → (G.recsL H).take ((G.recsL (H.take i)).length + c) = G.recsL (H.take i) ++ (G.recL H[i]).take c := fun i hi c hc => by
      have hz := hk _ (List.getElem_mem hi)
      conv => lhs; rw [recs_at H i hi hz]
      rw [List.take_append, List.take_of_length_le (by omega), Nat.add_sub_cancel_left, List.take_append_of_le_length (by rw [G.recL_len]; omega)]
    split
    · rename_i hc
      obtain ⟨i, hi, c, e, hc2⟩ := cut_at H hk (s + k - 1) (by omega)
      have hz := hk _ (List.getElem_mem hi)
      have hget : (G.recsL H).getD (s + k - 1) 0 = (G.recL H[i]).getD c 0 := by
        conv => lhs; rw [recs_at H i hi hz]
        rw [app_getD_r (by omega), e, Nat.add_sub_cancel_left, app_getD_l (by rw [G.recL_len]; omega)]
      refine ⟨i, ((G.recL H[i]).take (c + 1)).set (c + 1 - 1) ((G.recL H[i]).getD c 0 ^^^ 255), hge i hi c _ e hc2 (by omega), by omega, ?_, whole_turned _ (c + 1) (by omega) (by omega) hz _ (by rw [Nat.add_sub_cancel]; exact flip_ne _)⟩
      rw [hget, show s + k = (G.recsL (H.take i)).length + (c + 1) by omega, htk i hi (c + 1) (by omega), List.set_append_right _ _ (by omega)]
      congr 2
      omega
    · by_cases hn : s + k = (G.recsL H).length
      · refine ⟨H.length, [], hi0, Nat.le_refl _, ?_, rfl⟩
        rw [hn, List.take_length, List.take_length, List.append_nil]
      · obtain ⟨i, hi, c, e, hc2⟩ := cut_at H hk (s + k) (by omega)
        refine ⟨i, (G.recL H[i]).take c, hge i hi c _ e hc2 (by omega), by omega, ?_, G.whole_cut _ c hc2 (hk _ (List.getElem_mem hi))⟩
        rw [e, htk i hi c (by omega)]
  obtain ⟨i, t, h1, h2, h3, h4⟩ := key
  refine ⟨i, t, h1, h2, h3, h4, ?_⟩
  rw [← h3, hll]
  omega
end Go.Proofs.Ytbdlmdmbaajcmaa
namespace Go.Proofs.Ytbdlmdmbaajcmaa
set_option linter.unusedVariables false
set_option linter.unusedSimpArgs false
open Go.ChangeShapes Go.WideShapes Go.ChangeAt Go.RowKit

/-- What records lead to, one by one. -/
def stL (L : List En) : List ByteArray → List (List En)
  | [] => []
  | r :: R => doG L r :: stL (doG L r) R
theorem stL_get : ∀ (R : List ByteArray) (L : List En) (i : Nat), i < R.length → doAll L (R.take (i + 1)) ∈ stL L R
  | [], L, i, h => by simp at h
  | r :: R, L, 0, _ => by
    show doAll (doG L r) [] ∈ _
    exact List.mem_cons_self
  | r :: R, L, i + 1, h => by
    show doAll (doG L r) (R.take (i + 1)) ∈ _
    exact List.mem_cons_of_mem _ (stL_get R _ i (by simpa using h))
theorem stL_snoc : ∀ (R : List ByteArray) (L : List En) (r : ByteArray), stL L (R ++ [r]) = stL L R ++ [doG (doAll L R) r]
  | [], L, r => rfl
  | a :: R, L, r => by
    show doG L a :: stL (doG L a) (R ++ [r]) = _
    rw [stL_snoc R (doG L a) r]
    rfl
theorem stL_len : ∀ (R : List ByteArray) (L : List En), (stL L R).length = R.length
  | [], L => rfl
  | a :: R, L => by
    show (stL (doG L a) R).length + 1 = R.length + 1
    rw [stL_len R]
theorem stL_last (R : List ByteArray) (L : List En) (Ms : List (List En)) (h : Ms.getLast? = some L) : (Ms ++ stL L R).getLast? = some (doAll L R) := by
  rcases List.eq_nil_or_concat R with rfl | ⟨R', r, rfl⟩
  · simpa [stL, doAll] using h
  · rw [List.concat_eq_append, stL_snoc, ← List.append_assoc, List.getLast?_append]
    simp [doAll, List.foldl_append]
theorem stL_mem : ∀ (R : List ByteArray) (L M : List En), M ∈ stL L R → ∃ i, i < R.length ∧ M = doAll L (R.take (i + 1))
  | [], L, M, h => by cases h
  | r :: R, L, M, h => by
    rcases List.mem_cons.1 h with rfl | h
    · exact ⟨0, by simp, rfl⟩
    · obtain ⟨i, hi, e⟩ := stL_mem R _ M h
      exact ⟨i + 1, by simpa using hi, e⟩
/-- The records of a call. -/
def recsOf (L : List En) (m : Int) (c : Cl) : List ByteArray := if c.kind = 0 then stepsRs L m c.key c.val else if c.kind = 1 then evictRs L c.n else []
/-- The file of a store: each beginning that is safe, or longer, leads to one of the lists. -/
structure Hs (A : List Ab) (nm : ByteArray) (Ms : List (List En)) (L : List En) (z : Nat) : Prop where
  f : (A = [] ∧ L = [] ∧ [] ∈ Ms) ∨ ∃ H i0, A = [(nm, G.recsL H, (G.recsL (H.take i0)).length)] ∧ i0 ≤ H.length ∧ (∀ r ∈ H, r.size ≤ 65536) ∧ doSome [] H = some L ∧ (∀ i, i0 ≤ i → i ≤ H.length → ∃ M, M ∈ Ms ∧ doSome [] (H.take i) = some M) ∧ (G.recsL H).length ≤ z
/-- A file that leads to one of the lists, with a tail. -/
def Ls (B : List Ab) (nm : ByteArray) (Ms : List (List En)) (z : Nat) : Prop :=
  ∃ M, M ∈ Ms ∧ ((B = [] ∧ M = []) ∨ ∃ H t, B = [(nm, G.recsL H ++ t, (G.recsL H ++ t).length)] ∧ G.wholeL t = none ∧ (∀ r ∈ H, r.size ≤ 65536) ∧ doSome [] H = some M ∧ (G.recsL H ++ t).length ≤ z)
/-- What the loss of power leaves: a draft beside it, perhaps. -/
structure Wr (A : List Ab) (nm : ByteArray) (Ms : List (List En)) (z : Nat) : Prop where
  f : Ls (drpA A (nm ++ wNew)) nm Ms z
  nd : (A.map (·.1)).Nodup
theorem Ls.more {B : List Ab} {nm : ByteArray} {Ms Ms2 : List (List En)} {z z2 : Nat} (k : Ls B nm Ms z) (h : ∀ M, M ∈ Ms → M ∈ Ms2) (hz : z ≤ z2) : Ls B nm Ms2 z2 := by
  obtain ⟨M, h1, h2⟩ := k
  refine ⟨M, h M h1, ?_⟩
  rcases h2 with h2 | ⟨H, t, q1, q2, q3, q4, q5⟩
  · exact .inl h2
  · exact .inr ⟨H, t, q1, q2, q3, q4, Nat.le_trans q5 hz⟩
section
variable {A : List Ab} {nm : ByteArray} {Ms : List (List En)} {L : List En} {z : Nat}
theorem Hs.tot (k : Hs A nm Ms L z) : totA A ≤ z := by
  rcases k.f with ⟨rfl, _⟩ | ⟨H, i0, rfl, _, _, _, _, h⟩
  · simp [totA]
  · simpa [totA] using h
theorem Hs.nd (k : Hs A nm Ms L z) : (A.map (·.1)).Nodup := by
  rcases k.f with ⟨rfl, _⟩ | ⟨H, i0, rfl, _⟩ <;> simp
theorem Hs.len (k : Hs A nm Ms L z) : A.length ≤ 1 := by
  rcases k.f with ⟨rfl, _⟩ | ⟨H, i0, rfl, _⟩ <;> simp
theorem Hs.more (k : Hs A nm Ms L z) {Ms2 : List (List En)} {z2 : Nat} (h : ∀ M, M ∈ Ms → M ∈ Ms2) (hz : z ≤ z2) : Hs A nm Ms2 L z2 := by
  rcases k.f with ⟨h1, h2, h3⟩ | ⟨H, i0, q1, q2, q3, q4, q5, q6⟩
  · exact ⟨.inl ⟨h1, h2, h _ h3⟩⟩
  · refine ⟨.inr ⟨H, i0, q1, q2, q3, q4, fun i a b => ?_, Nat.le_trans q6 hz⟩⟩
    obtain ⟨M, hM, e⟩ := q5 i a b
    exact ⟨M, h M hM, e⟩
theorem Hs.mem (k : Hs A nm Ms L z) : L ∈ Ms := by
  rcases k.f with ⟨h1, rfl, h3⟩ | ⟨H, i0, q1, q2, q3, q4, q5, q6⟩
  · exact h3
  · obtain ⟨M, hM, e⟩ := q5 H.length q2 (Nat.le_refl _)
    rw [List.take_length, q4] at e
    injection e with e
    rwa [e]
theorem Hs.lose (k : Hs A nm Ms L z) (keep : Int) (torn : Bool) : Ls (A.map (loseA keep torn)) nm Ms z := by
  rcases k.f with ⟨rfl, rfl, h3⟩ | ⟨H, i0, rfl, q2, q3, q4, q5, q6⟩
  · exact ⟨[], h3, .inl ⟨rfl, rfl⟩⟩
  · obtain ⟨i, t, h1, h2, h3, h4, h5⟩ := lost H q3 i0 q2 keep torn
    obtain ⟨M, hM, e⟩ := q5 i h1 h2
    refine ⟨M, hM, .inr ⟨H.take i, t, ?_, h4, fun r hr => q3 r (List.mem_of_mem_take hr), e, Nat.le_trans h5 q6⟩⟩
    show [(nm, loseD keep torn (G.recsL H) (G.recsL (H.take i0)).length, (loseD keep torn (G.recsL H) (G.recsL (H.take i0)).length).length)] = _
    rw [h3]
theorem Hs.draft (k : Hs A nm Ms L z) : lookA A (nm ++ wNew) = none := by
  have hne := ready_ne nm rfl
  rcases k.f with ⟨rfl, _, _⟩ | ⟨H, i0, rfl, _⟩
  · rfl
  · simp [lookA, hne]
theorem Hs.drp (k : Hs A nm Ms L z) : drpA A (nm ++ wNew) = A := by
  have hne := ready_ne nm rfl
  rcases k.f with ⟨rfl, _, _⟩ | ⟨H, i0, rfl, _⟩
  · rfl
  · simp [drpA, hne]
theorem drp_lose (X : List Ab) (keep : Int) (torn : Bool) (x : ByteArray) : drpA (X.map (loseA keep torn)) x = (drpA X x).map (loseA keep torn) := by
  unfold drpA
  rw [List.filter_map]
  rfl
theorem lose_names (X : List Ab) (keep : Int) (torn : Bool) : (X.map (loseA keep torn)).map (·.1) = X.map (·.1) := by rw [List.map_map]; rfl
/-- The power goes while a draft may stand beside it. -/
theorem Hs.wreck (k : Hs A nm Ms L z) {X : List Ab} (hX : drpA X (nm ++ wNew) = A) (nd : (X.map (·.1)).Nodup) (keep : Int) (torn : Bool) : Wr (X.map (loseA keep torn)) nm Ms z := by
  refine ⟨?_, by rw [lose_names]; exact nd⟩
  rw [drp_lose, hX]
  exact k.lose keep torn
/-- Records are put behind. -/
theorem Hs.apd (k : Hs A nm Ms L z) (R : List ByteArray) (hR : ∀ r ∈ R, r.size ≤ 65536) (hk : ∀ r ∈ R, ∀ L, (doC L r).isSome = true) : Hs (apdA A nm (G.recsL R)) nm (Ms ++ stL L R) (doAll L R) (z + (G.recsL R).length) := by
  have hkT : ∀ n, ∀ r ∈ R.take n, ∀ L, (doC L r).isSome = true := fun n r hr => hk r (List.mem_of_mem_take hr)
  have hmem : ∀ n, n ≤ R.length → doAll L (R.take n) ∈ Ms ++ stL L R := fun n hn => by
    cases n with
    | zero => exact List.mem_append_left _ k.mem
    | succ n => exact List.mem_append_right _ (stL_get R L n hn)
  rcases k.f with ⟨rfl, rfl, h3⟩ | ⟨H, i0, rfl, q2, q3, q4, q5, q6⟩
  · refine ⟨.inr ⟨R, 0, by simp [apdA, lookA, updA, G.recsL], Nat.zero_le _, hR, doSome_all R [] hk, fun i _ hi => ⟨_, hmem i hi, doSome_all _ _ (hkT i)⟩, by omega⟩⟩
  · refine ⟨.inr ⟨H ++ R, i0, ?_, by rw [List.length_append]; omega, fun r hr => ?_, ?_, fun i h1 h2 => ?_, ?_⟩⟩
    · rw [List.take_append_of_le_length q2, G.recsL_append]
      simp [apdA, lookA, updA]
    · rcases List.mem_append.1 hr with hr | hr
      · exact q3 r hr
      · exact hR r hr
    · rw [doSome_app, q4]
      exact doSome_all R L hk
    · by_cases hi : i ≤ H.length
      · obtain ⟨M, hM, e⟩ := q5 i h1 hi
        exact ⟨M, List.mem_append_left _ hM, by rw [List.take_append_of_le_length hi]; exact e⟩
      · rw [List.length_append] at h2
        refine ⟨_, hmem (i - H.length) (by omega), ?_⟩
        rw [List.take_append, List.take_of_length_le (by omega), doSome_app, q4]
        exact doSome_all _ L (hkT _)
    · rw [G.recsL_append, List.length_append]; omega
/-- All is safe. -/
theorem Hs.syn (k : Hs A nm Ms L z) : Hs (synA A nm) nm [L] L z := by
  rcases k.f with ⟨rfl, rfl, h3⟩ | ⟨H, i0, rfl, q2, q3, q4, q5, q6⟩
  · exact ⟨.inl ⟨rfl, rfl, List.mem_cons_self⟩⟩
  · refine ⟨.inr ⟨H, H.length, by simp [synA, lookA, updA], Nat.le_refl _, q3, q4, fun i h1 h2 => ?_, q6⟩⟩
    obtain rfl : i = H.length := by omega
    exact ⟨L, List.mem_cons_self, by rw [List.take_length]; exact q4⟩
end
/-- The first open behind the loss of power. -/
theorem Wr.open {A : List Ab} {nm : ByteArray} {Ms : List (List En)} {z : Nat} (k : Wr A nm Ms z) {h : Hd} (hd : h.down = false) (hl : h.left = 0) (g : goodN nm = true) (g2 : goodN (nm ++ wNew) = true) :
    ∃ h2 A2 M, openOut h A nm = (0, h2, A2, M) ∧ M ∈ Ms ∧ Hs A2 nm [M] M z ∧ h2.down = false ∧ h2.left = 0 ∧ h2.room = h.room := by
  have hl1 : ∀ h' : Hd, h'.left = 0 → h'.left ≠ 1 := fun h' e => by rw [e]; decide
  have hrd : ∀ (h' : Hd) (x : ByteArray), h'.down = false → goodN x = true → readyE h' x = 0 := fun h' x e1 e2 => by unfold readyE; rw [if_neg (by rw [e1]; simp), if_pos e2]
  have hst : ∃ e1 h1, stepA h A (drpA A (nm ++ wNew)) (findA h A (nm ++ wNew)) 1 = (e1, h1, drpA A (nm ++ wNew)) ∧ (e1 = 0 ∨ e1 = 5) ∧ h1.down = false ∧ h1.left = 0 ∧ h1.room = h.room := by
    unfold findA
    rw [if_neg (by rw [hrd h _ hd g2]; simp)]
    cases hlk : lookA A (nm ++ wNew) with
    | some y =>
      rw [if_pos (by simp), step_ok rfl (hl1 h hl)]
      exact ⟨_, _, rfl, .inl rfl, rfl, by show max (h.left - 1) 0 = 0; rw [hl]; decide, rfl⟩
    | none =>
      rw [if_neg (by simp), step_pre (by decide)]
      have : drpA A (nm ++ wNew) = A := by
        unfold drpA
        rw [List.filter_eq_self]
        intro y hy
        have := List.find?_eq_none.1 (show A.find? (fun y => decide (y.1 = nm ++ wNew)) = none from hlk) y hy
        simpa using this
      rw [this]
      exact ⟨5, h, rfl, .inr rfl, hd, hl, rfl⟩
  obtain ⟨e1, h1, hs1, he1, d1, l1, r1⟩ := hst
  unfold openOut
  rw [hs1]
  unfold openA
  rw [if_neg (by rcases he1 with e | e <;> simp [e])]
  dsimp only
  obtain ⟨M, hM, hB⟩ := k.f
  generalize drpA A (nm ++ wNew) = B at *
  have hf : ∀ B, findA h1 B nm = if (lookA B nm).isSome = true then 0 else 5 := fun B => by unfold findA; rw [if_neg (by rw [hrd h1 _ d1 g]; simp)]
  unfold mendOut
  rw [hf]
  rcases hB with ⟨rfl, rfl⟩ | ⟨H, t, rfl, q1, q2, q3, q4⟩
  · rw [if_neg (by simp [lookA])]
    refine ⟨h1, [], [], by simp [lookA, openB, doSome], hM, ⟨.inl ⟨rfl, rfl, List.mem_cons_self⟩⟩, d1, l1, r1⟩
  · have hla : lookA [(nm, G.recsL H ++ t, (G.recsL H ++ t).length)] nm = some (nm, G.recsL H ++ t, (G.recsL H ++ t).length) := by simp [lookA]
    have hend : ∀ i, H.length ≤ i → i ≤ H.length → ∃ M', M' ∈ [M] ∧ doSome [] (H.take i) = some M' := fun i a b => by
      obtain rfl : i = H.length := by omega
      exact ⟨M, List.mem_cons_self, by rw [List.take_length]; exact q3⟩
    rw [List.length_append] at q4
    rw [hla, if_pos (by simp)]
    dsimp only
    rw [G.split_recs H t q2 q1]
    dsimp only
    by_cases ht : (G.recsL H).length < (G.recsL H ++ t).length
    · rw [if_pos ht, step_ok rfl (hl1 h1 l1)]
      dsimp only
      refine ⟨⟨h1.room, h1.acts + 1, false, max (h1.left - 1) 0, h1.keep, h1.torn⟩, cutA [(nm, G.recsL H ++ t, (G.recsL H ++ t).length)] nm (G.recsL H).length, M, by unfold openB; rw [if_neg (by simp), if_pos rfl]; dsimp only; rw [q3], hM, ⟨.inr ⟨H, H.length, ?_, Nat.le_refl _, q2, q3, hend, by omega⟩⟩, rfl, by show max (h1.left - 1) 0 = 0; rw [l1]; decide, r1⟩
      rw [List.length_append] at ht
      simp [cutA, lookA, updA]
    · rw [if_neg ht]
      have ht0 : t = [] := List.eq_nil_of_length_eq_zero (by rw [List.length_append] at ht; omega)
      subst ht0
      refine ⟨h1, _, M, by unfold openB; rw [if_neg (by simp)]; dsimp only; rw [q3], hM, ⟨.inr ⟨H, H.length, by simp, Nat.le_refl _, q2, q3, hend, by omega⟩⟩, d1, l1, r1⟩
end Go.Proofs.Ytbdlmdmbaajcmaa
namespace Go.Proofs.Ytbdlmdmbaajcmaa
set_option linter.unusedVariables false
set_option linter.unusedSimpArgs false
open Go.ChangeShapes Go.WideShapes Go.ChangeAt Go.RowKit

section
variable {h : Hd} {A : List Ab} {nm : ByteArray}
theorem rdy (hd : h.down = false) {x : ByteArray} (g : goodN x = true) : readyE h x = 0 := by unfold readyE; rw [if_neg (by rw [hd]; simp), if_pos g]
theorem fnd (hd : h.down = false) {x : ByteArray} (g : goodN x = true) : findA h A x = if (lookA A x).isSome = true then 0 else 5 := by unfold findA; rw [if_neg (by rw [rdy hd g]; simp)]
/-- An act: it is done, or the power goes. -/
theorem step_two (A1 : List Ab) (stays : Int) :
    (h.left ≠ 1 ∧ ∃ h2, stepA h A A1 0 stays = (0, h2, A1) ∧ h2.down = false ∧ h2.room = h.room) ∨
    (∃ h2, stepA h A A1 0 stays = (7, h2, (if doesB stays h.keep = true then A1 else A).map (loseA h.keep h.torn)) ∧ h2.down = true ∧ h2.room = h.room) := by
  by_cases hl : h.left = 1
  · exact .inr ⟨_, step_off rfl hl, rfl, rfl⟩
  · exact .inl ⟨hl, _, step_ok rfl hl, rfl, rfl⟩
theorem log_arm (hd : h.down = false) {x : ByteArray} (g : goodN x = true) {cc : List UInt8} (hr : (totA A : Int) + (cc.length : Int) ≤ h.room) : logR h A x cc = stepA h A (apdA A x cc) 0 0 := by
  unfold logR
  have he : logE h A x cc = 0 := by
    unfold logE
    rw [if_neg (by rw [rdy hd g]; simp), if_neg (by omega)]
  rw [he]
end
/-- What a call comes to. -/
structure CUp (h : Hd) (nm : ByteArray) (Ms2 : List (List En)) (L2 : List En) (z : Nat) (e : Int) (o : (Int × Hd × List Ab) × List En) (L : List En) : Prop where
  f : ∃ h2 A2, o.1 = (e, h2, A2) ∧ (if o.1.1 = 0 then o.2 else L) = L2 ∧ h2.down = false ∧ h2.room = h.room ∧ Hs A2 nm Ms2 L2 z
structure CDn (h : Hd) (nm : ByteArray) (Ms2 : List (List En)) (z : Nat) (o : (Int × Hd × List Ab) × List En) : Prop where
  f : ∃ h2 A2, o.1 = (7, h2, A2) ∧ h2.down = true ∧ h2.room = h.room ∧ Wr A2 nm Ms2 z
section
variable {h : Hd} {A : List Ab} {nm : ByteArray} {Ms : List (List En)} {L : List En} {z N : Nat}
theorem log_two (hd : h.down = false) (g : goodN nm = true) (hs : Hs A nm Ms L z) (R : List ByteArray) (hR : ∀ r ∈ R, r.size ≤ 65536) (hk : ∀ r ∈ R, ∀ L, (doC L r).isSome = true) (hb : bytesN R ≤ 8271) (hroom : (z : Int) + 16542 ≤ h.room) :
    CUp h nm (Ms ++ stL L R) (doAll L R) (z + 8271) 0 (logR h A nm (G.recsL R), doAll L R) L ∨ CDn h nm (Ms ++ stL L R) (z + 8271) (logR h A nm (G.recsL R), doAll L R) := by
  have hbb := bytesN_recs R hR
  have ht := hs.tot
  have ha := (hs.apd R hR hk).more (fun _ h => h) (show z + (G.recsL R).length ≤ z + 8271 by omega)
  rw [log_arm hd g (by omega)]
  rcases step_two (h := h) (A := A) (apdA A nm (G.recsL R)) 0 with ⟨_, h2, e, d, r⟩ | ⟨h2, e, d, r⟩
  · rw [e]
    exact .inl ⟨h2, _, rfl, rfl, d, r, ha⟩
  · rw [e, if_pos (by simp [doesB])]
    exact .inr ⟨h2, _, rfl, d, r, ha.wreck ha.drp ha.nd _ _⟩
theorem Hs.apd_draft (hs : Hs A nm Ms L z) (cc : List UInt8) : drpA (apdA A (nm ++ wNew) cc) (nm ++ wNew) = A ∧ ((apdA A (nm ++ wNew) cc).map (·.1)).Nodup ∧ lookA (apdA A (nm ++ wNew) cc) (nm ++ wNew) = some (nm ++ wNew, cc, 0) ∧ totA (apdA A (nm ++ wNew) cc) = totA A + cc.length := by
  have hne := ready_ne nm rfl
  refine ⟨?_, nd_apd hs.nd, ?_, tot_apd hs.nd⟩
  · rcases hs.f with ⟨rfl, _, _⟩ | ⟨H, s, rfl, _⟩ <;> simp [apdA, lookA, updA, hne, drpA]
  · rcases hs.f with ⟨rfl, _, _⟩ | ⟨H, s, rfl, _⟩ <;> simp [apdA, lookA, updA, hne]
theorem Hs.syn_draft (hs : Hs A nm Ms L z) (cc : List UInt8) : drpA (synA (apdA A (nm ++ wNew) cc) (nm ++ wNew)) (nm ++ wNew) = A ∧ ((synA (apdA A (nm ++ wNew) cc) (nm ++ wNew)).map (·.1)).Nodup ∧ lookA (synA (apdA A (nm ++ wNew) cc) (nm ++ wNew)) (nm ++ wNew) = some (nm ++ wNew, cc, cc.length) ∧ renA (synA (apdA A (nm ++ wNew) cc) (nm ++ wNew)) (nm ++ wNew) nm = [(nm, cc, cc.length)] := by
  have hne := ready_ne nm rfl
  refine ⟨?_, nd_syn (nd_apd hs.nd), ?_, ?_⟩
  · rcases hs.f with ⟨rfl, _, _⟩ | ⟨H, s, rfl, _⟩ <;> simp [apdA, synA, lookA, updA, hne, drpA]
  · rcases hs.f with ⟨rfl, _, _⟩ | ⟨H, s, rfl, _⟩ <;> simp [apdA, synA, lookA, updA, hne]
  · rcases hs.f with ⟨rfl, _, _⟩ | ⟨H, s, rfl, _⟩ <;> simp [apdA, synA, renA, drpA, lookA, updA, hne, Ne.symm hne]
theorem comp_two (hd : h.down = false) (g : goodN nm = true) (g2 : goodN (nm ++ wNew) = true) (hs : Hs A nm Ms L z) (bL : Bd N L) (hb : bytesN (L.map putB) ≤ 8271) (hroom : (z : Int) + 16542 ≤ h.room) :
    CUp h nm [L] L (z + 8271) 0 (compOut h A nm L, L) L ∨ CDn h nm Ms (z + 8271) (compOut h A nm L, L) := by
  have hsz : ∀ p ∈ L.map putB, p.size ≤ 65536 := fun p hp => by have := bL.cpRs p hp; omega
  have hbb := bytesN_recs (L.map putB) hsz
  have hdo : doSome [] (L.map putB) = some L := by
    have := doSome_puts L [] (by simpa using bL.nd) (fun e he => by have := bL.s e he; omega)
    simpa using this
  have ht := hs.tot
  obtain ⟨cc, hcc⟩ : ∃ cc, cc = G.recsL (L.map putB) := ⟨_, rfl⟩
  have hlast : Hs [(nm, cc, cc.length)] nm [L] L (z + 8271) := by
    rw [hcc]
    refine ⟨.inr ⟨L.map putB, (L.map putB).length, by rw [List.take_length], Nat.le_refl _, hsz, hdo, fun i a b => ⟨L, List.mem_cons_self, ?_⟩, by omega⟩⟩
    obtain rfl : i = (L.map putB).length := by omega
    rw [List.take_length]
    exact hdo
  unfold compOut
  rw [← hcc] at hbb ⊢
  obtain ⟨a1, a2, a3, a4⟩ := hs.apd_draft cc
  obtain ⟨s1, s2, s3, s4⟩ := hs.syn_draft cc
  rw [log_arm hd g2 (by omega)]
  rcases step_two (h := h) (A := A) (apdA A (nm ++ wNew) cc) 0 with ⟨_, h2, e, d, r⟩ | ⟨h2, e, d, r⟩
  · rw [e]
    unfold compB
    rw [if_neg (by simp)]
    dsimp only
    unfold syncR
    rw [fnd d g2, a3, if_pos (by simp)]
    rcases step_two (h := h2) (A := apdA A (nm ++ wNew) cc) (synA (apdA A (nm ++ wNew) cc) (nm ++ wNew)) 2 with ⟨_, h3, e, d3, r3⟩ | ⟨h3, e, d3, r3⟩
    · rw [e]
      unfold compC
      rw [if_neg (by simp)]
      dsimp only
      unfold renR
      have hf3 : findA h3 (synA (apdA A (nm ++ wNew) cc) (nm ++ wNew)) (nm ++ wNew) = 0 := by rw [fnd d3 g2, s3]; rfl
      rw [hf3, if_neg (by simp), if_pos g]
      rcases step_two (h := h3) (A := synA (apdA A (nm ++ wNew) cc) (nm ++ wNew)) (renA (synA (apdA A (nm ++ wNew) cc) (nm ++ wNew)) (nm ++ wNew) nm) 1 with ⟨_, h4, e, d4, r4⟩ | ⟨h4, e, d4, r4⟩
      · rw [e, s4]
        exact .inl ⟨h4, _, rfl, rfl, d4, by rw [r4, r3, r], hlast⟩
      · rw [e]
        refine .inr ⟨h4, _, rfl, d4, by rw [r4, r3, r], ?_⟩
        split
        · rw [s4]
          exact (hlast.more (Ms2 := Ms) (fun M hM => by rw [List.mem_singleton.1 hM]; exact hs.mem) (Nat.le_refl _)).wreck hlast.drp hlast.nd _ _
        · exact (hs.more (fun _ h => h) (by omega)).wreck s1 s2 _ _
    · rw [e, if_neg (by simp [doesB])]
      unfold compC
      rw [if_pos (by simp)]
      exact .inr ⟨h3, _, rfl, d3, by rw [r3, r], (hs.more (fun _ h => h) (by omega)).wreck a1 a2 _ _⟩
  · rw [e, if_pos (by simp [doesB])]
    unfold compB
    rw [if_pos (by simp)]
    exact .inr ⟨h2, _, rfl, d, r, (hs.more (fun _ h => h) (by omega)).wreck a1 a2 _ _⟩
theorem sync_two (hd : h.down = false) (g : goodN nm = true) (hs : Hs A nm Ms L z) :
    CUp h nm [L] L (z + 8271) 0 (syncOut h A nm, L) L ∨ CDn h nm Ms (z + 8271) (syncOut h A nm, L) := by
  unfold syncOut syncR
  rcases hs.f with ⟨rfl, rfl, h3⟩ | ⟨H, s, rfl, q2⟩
  · have hf : findA h [] nm = 5 := by rw [fnd hd g]; rfl
    rw [hf, step_pre (by decide)]
    exact .inl ⟨h, _, rfl, rfl, hd, rfl, ⟨.inl ⟨rfl, rfl, List.mem_cons_self⟩⟩⟩
  · have hf : findA h [(nm, G.recsL H, (G.recsL (H.take s)).length)] nm = 0 := by rw [fnd hd g]; simp [lookA]
    rw [hf]
    rcases step_two (h := h) (A := [(nm, G.recsL H, (G.recsL (H.take s)).length)]) (synA [(nm, G.recsL H, (G.recsL (H.take s)).length)] nm) 2 with ⟨_, h2, e, d, r⟩ | ⟨h2, e, d, r⟩
    · rw [e]
      exact .inl ⟨h2, _, rfl, rfl, d, r, hs.syn.more (fun _ h => h) (by omega)⟩
    · rw [e, if_neg (by simp [doesB])]
      exact .inr ⟨h2, _, rfl, d, r, (hs.more (fun _ h => h) (by omega)).wreck hs.drp hs.nd _ _⟩
/-- A call, of whatever kind, whatever fuse is laid. -/
theorem arm_two (hd : h.down = false) (g : goodN nm = true) (g2 : goodN (nm ++ wNew) = true) (hs : Hs A nm Ms L z) (bL : Bd N L) (m : Int) (c : Cl) (hk : c.key.size ≤ 4096) (hv : c.val.size ≤ 4096) (cost : Cost L m c) (hroom : (z : Int) + 16542 ≤ h.room) (y : Int) :
    (refOut L m y 1048576 c).2.1 = doAll L (recsOf L m c) ∧ (refOut L m y 1048576 c).1 ≠ 7 ∧ (c.kind = 2 ∨ c.kind = 3 → (refOut L m y 1048576 c).1 = 0) ∧
    (CUp h nm (if c.kind = 2 ∨ c.kind = 3 then [L] else Ms ++ stL L (recsOf L m c)) (doAll L (recsOf L m c)) (z + 8271) (refOut L m y 1048576 c).1 (codeOut h A nm m L c) L ∨ CDn h nm (Ms ++ stL L (recsOf L m c)) (z + 8271) (codeOut h A nm m L c)) := by
  have c1 := cost.p
  have c2 := cost.e
  have c3 := cost.c
  have hsame : CUp h nm (Ms ++ stL L []) (doAll L []) (z + 8271) 0 ((0, h, A), L) L := ⟨h, A, rfl, rfl, hd, rfl, hs.more (fun M hM => List.mem_append_left _ hM) (by omega)⟩
  unfold codeOut refOut recsOf
  by_cases h0 : c.kind = 0
  · simp only [if_pos h0]
    rw [if_neg (show ¬ (c.kind = 2 ∨ c.kind = 3) by omega)]
    unfold putOut refPutOut stepsRs
    simp only [if_neg (putB_small hk hv)]
    by_cases hg : getL L c.key = (c.val, true)
    · simp only [if_pos hg]
      exact ⟨rfl, (by first | decide | (dsimp only; decide)), (by intros; first | rfl | trivial), .inl hsame⟩
    · simp only [if_neg hg]
      unfold writeOut
      rw [if_neg (by omega)]
      refine ⟨rfl, (by first | decide | (dsimp only; decide)), (by intros; first | rfl | trivial), ?_⟩
      exact log_two hd g hs _ (fun x hx => by have := bL.putRs m hk hv x hx; omega) (put_known bL m hk hv) c1 hroom
  simp only [if_neg h0]
  by_cases h1 : c.kind = 1
  · simp only [if_pos h1]
    rw [if_neg (show ¬ (c.kind = 2 ∨ c.kind = 3) by omega)]
    unfold evictOut refEvictOut
    have hlog := log_two hd g hs (evictRs L c.n) (fun x hx => by have := bL.evRs c.n x hx; omega) (ev_known bL c.n) c2 hroom
    by_cases hn : c.n < 0
    · simp only [if_pos hn]
      have he : evictRs L c.n = [] := by unfold evictRs; rw [show c.n.toNat = 0 by omega]; rfl
      rw [he]
      exact ⟨rfl, by decide, fun hh => by omega, .inl ⟨h, A, rfl, rfl, hd, rfl, hs.more (fun M hM => List.mem_append_left _ hM) (by omega)⟩⟩
    · simp only [if_neg hn]
      by_cases he : (evictRs L c.n).length = 0
      · simp only [if_pos he]
        have h00 : evictRs L c.n = [] := List.eq_nil_of_length_eq_zero he
        rw [h00] at hlog ⊢
        exact ⟨rfl, (by first | decide | (dsimp only; decide)), (by intros; first | rfl | trivial), hlog⟩
      · simp only [if_neg he]
        unfold writeOut
        rw [if_neg (by omega)]
        exact ⟨rfl, (by first | decide | (dsimp only; decide)), (by intros; first | rfl | trivial), hlog⟩
  simp only [if_neg h1]
  by_cases h2 : c.kind = 2
  · simp only [if_pos h2]
    rw [if_pos (.inl h2)]
    refine ⟨rfl, (by first | decide | (dsimp only; decide)), (by intros; first | rfl | trivial), ?_⟩
    rcases sync_two hd g hs with h | h
    · exact .inl h
    · right
      simpa [stL] using h
  simp only [if_neg h2]
  by_cases h3 : c.kind = 3
  · simp only [if_pos h3]
    rw [if_pos (.inr h3)]
    unfold refCompOut
    rw [if_neg (by omega)]
    refine ⟨rfl, (by first | decide | (dsimp only; decide)), (by intros; first | rfl | trivial), ?_⟩
    rcases comp_two hd g g2 hs bL c3 hroom with h | h
    · exact .inl h
    · right
      simpa [stL] using h
  simp only [if_neg h3]
  rw [if_neg (show ¬ (c.kind = 2 ∨ c.kind = 3) by omega)]
  exact ⟨rfl, (by first | decide | (dsimp only; decide)), (by intros; first | rfl | trivial), .inl hsame⟩
end
end Go.Proofs.Ytbdlmdmbaajcmaa
namespace Go.Proofs.Ytbdlmdmbaajcmaa
set_option linter.unusedVariables false
set_option linter.unusedSimpArgs false
open Go.ChangeShapes Go.WideShapes Go.ChangeAt Go.RowKit

/-- What a call leaves of a device. -/
theorem nd_step {h : Hd} {A A1 : List Ab} {pre stays : Int} (n0 : (A.map (·.1)).Nodup) (n1 : (A1.map (·.1)).Nodup) : (((stepA h A A1 pre stays).2.2).map (·.1)).Nodup := by
  unfold stepA
  split
  · exact n0
  · split
    · exact n1
    · rw [lose_names]
      split
      · exact n1
      · exact n0
theorem code_ok {n : Nat} {h : Hd} {A : List Ab} (ok : DvOk n h A) (nd : (A.map (·.1)).Nodup) (nm : ByteArray) (m : Int) (L : List En) (c : Cl) : DvOk (n + 3) (codeOut h A nm m L c).1.2.1 (codeOut h A nm m L c).1.2.2 := by
  unfold codeOut
  split
  · unfold putOut
    split
    · exact ok.more (by omega)
    · split
      · exact ok.more (by omega)
      · exact (logR_ok ok nd _ _).more (by omega)
  · split
    · unfold evictOut
      split
      · exact ok.more (by omega)
      · exact (logR_ok ok nd _ _).more (by omega)
    · split
      · exact (syncR_ok ok nd _).more (by omega)
      · split
        · unfold compOut
          have o1 := logR_ok ok nd (nm ++ wNew) (G.recsL (L.map putB))
          have n1 : (((logR h A (nm ++ wNew) (G.recsL (L.map putB))).2.2).map (·.1)).Nodup := nd_step nd (nd_apd nd)
          generalize logR h A (nm ++ wNew) (G.recsL (L.map putB)) = r1 at *
          unfold compB
          split
          · exact o1.more (by omega)
          · have o2 := syncR_ok o1 n1 (nm ++ wNew)
            have n2 : (((syncR r1.2.1 r1.2.2 (nm ++ wNew)).2.2).map (·.1)).Nodup := nd_step n1 (nd_syn n1)
            generalize syncR r1.2.1 r1.2.2 (nm ++ wNew) = r2 at *
            unfold compC
            split
            · exact o2.more (by omega)
            · exact renR_ok o2 n2 _ _
        · exact ok.more (by omega)
/-- Both stores; X: other blocks. -/
structure QX (B : Nat) (X : Nat → Prop) (b d : Nat) (m : Int) (h : Hd) (A : List Ab) (L : List En) (b2 : Nat) (L2 : List En) (z : Int) (w : World) : Prop where
  s : ∃ TD TS, Pair TD TS (fun k => k = b2 ∨ X k) b d kN m h A L b2 m L2 z w ∧ (∀ k, TD k → B ≤ k) ∧ (∀ k, TS k → B ≤ k)
  b : B ≤ b2
  x : ∀ k, X k → B ≤ k ∧ k ≠ b2
section
variable {B b d b2 : Nat} {X : Nat → Prop} {m z : Int} {h : Hd} {A : List Ab} {L L2 : List En} {w w' : World} {n N : Nat}
theorem QX.lt (k : QX B X b d m h A L b2 L2 z w) : ∀ q, X q → q < w.heap.size := fun q hq => by
  obtain ⟨TD, TS, k1, _⟩ := k.s
  exact k1.lr q (.inr hq)
theorem QX.below (k : QX B X b d m h A L b2 L2 z w) (hB : Below w.heap.size w w') (hb : B ≤ w.heap.size) : QX B (Gr X w w') b d m h A L b2 L2 z w' := by
  obtain ⟨TD, TS, k1, k2, k3⟩ := k.s
  have h2 := k1.lr b2 (.inl rfl)
  refine ⟨⟨TD, TS, ⟨k1.kv.below hB, (k1.rs.below hB).mono (fun q hq => hq.imp id .inl), fun q hq ho => ?_, fun q hq => ?_⟩, k2, k3⟩, k.b, fun q hq => ?_⟩
  · have hlt : q < w.heap.size := by
      rcases ho with ho | ho
      · exact k1.kv.ld q ho
      · exact k1.kv.ls q ho
    rcases hq with hq | hq | hq
    · exact k1.dj q (.inl hq) ho
    · exact k1.dj q (.inr hq) ho
    · omega
  · have hs := hB.size
    rcases hq with rfl | hq | hq
    · omega
    · have := k1.lr q (.inr hq); omega
    · exact hq.2
  · rcases hq with hq | hq
    · exact k.x q hq
    · omega
theorem QX.to (k : QX B X b d m h A L b2 L2 z w) (hB : B ≤ w.heap.size) : ∃ TD TS, Kv TD TS b d kN m h A L w ∧ ∀ h' A' L' w', KvTo TD TS b d kN m h' A' L' w w' → QX B X b d m h' A' L' b2 L2 z w' ∧ Below B w w' ∧ ∀ q, X q → w'.heap[q]? = w.heap[q]? := by
  obtain ⟨TD, TS, k1, k2, k3⟩ := k.s
  refine ⟨TD, TS, k1.kv, fun h' A' L' w' ⟨TD', TS', q1, q2, q3, q4⟩ => ⟨⟨⟨TD', TS', ⟨q1, k1.rs.kept q4 (fun q hq ho => k1.dj q hq ho), fun q hq ho => ?_, fun q hq => Nat.lt_of_lt_of_le (k1.lr q hq) q4.size⟩, fun q hq => Gr.ge k2 hB q (q2 q hq), fun q hq => Gr.ge k3 hB q (q3 q hq)⟩, k.b, k.x⟩, q4.below (fun q hq => by rcases hq with hq | hq; exact k2 q hq; exact k3 q hq) hB, fun q hq => q4.block q (k1.lr q (.inr hq)) (fun ho => k1.dj q (.inr hq) ho)⟩⟩
  have hl := k1.lr q hq
  rcases ho with ho | ho
  · rcases q2 q ho with ho | ho
    · exact k1.dj q hq (.inl ho)
    · omega
  · rcases q3 q ho with ho | ho
    · exact k1.dj q hq (.inr ho)
    · omega
theorem RowL.same {L : List En} {v : Value} (k : RowL X L v w) (h : ∀ q, X q → w'.heap[q]? = w.heap[q]?) : RowL X L v w' := by
  obtain ⟨bb, q1, q2⟩ := k.f
  exact ⟨bb, ownG_same q1 (fun g hg => h g (q2 g hg)), q2⟩
/-- The row of the document's list isn't its store's block. -/
theorem QX.row (k : QX B X b d m h A L b2 L2 z w) : ∃ p c, w.heap[b2]? = some (.cells (rsA m (.slice p L2.length c) z) 34 (0, 0)) ∧ RowL X L2 (.slice p L2.length c) w := by
  obtain ⟨TD, TS, k1, _⟩ := k.s
  obtain ⟨lv, h1, h2⟩ := k1.rs.f
  obtain ⟨p, c, rfl⟩ := h2.slice
  obtain ⟨bb, q1, q2⟩ := h2.f
  refine ⟨p, c, h1, bb, q1, fun g hg => ?_⟩
  rcases q2 g hg with rfl | hx
  · obtain ⟨_, _, cur, hc⟩ := ownG_lt q1 g hg
    rw [h1] at hc
    injection hc with hc
    injection hc with _ hc
    exact absurd hc (by decide)
  · exact hx
/-- The document's list is another. -/
theorem QX.list (k : QX B X b d m h A L b2 L2 z w) {M : List En} {u : Value} (hu : RowL X M u w) : QX B X b d m h A L b2 M z (w.setCell ⟨b2, 1, none⟩ u) ∧ (∀ q, X q → (w.setCell ⟨b2, 1, none⟩ u).heap[q]? = w.heap[q]?) ∧ Below B w (w.setCell ⟨b2, 1, none⟩ u) := by
  obtain ⟨TD, TS, k1, k2, k3⟩ := k.s
  obtain ⟨lv, h1, h2⟩ := k1.rs.f
  have hk : Kept (fun q => q = b2) w (w.setCell ⟨b2, 1, none⟩ u) := kept_cell rfl
  have hsz : (w.setCell ⟨b2, 1, none⟩ u).heap.size = w.heap.size := set_size _ _ _
  refine ⟨⟨⟨TD, TS, ⟨⟨k1.kv.dv.kept hk (fun q hq e => k1.dj b2 (.inl rfl) (.inl (e ▸ hq))), k1.kv.st.kept hk (fun q hq e => k1.dj b2 (.inl rfl) (.inr (e ▸ hq))), k1.kv.dj, fun q hq => by rw [hsz]; exact k1.kv.ld q hq, fun q hq => by rw [hsz]; exact k1.kv.ls q hq⟩, Rs.list h1 (hu.mono (fun q hq => .inr hq)) (.inl rfl), k1.dj, fun q hq => by rw [hsz]; exact k1.lr q hq⟩, k2, k3⟩, k.b, k.x⟩, fun q hq => hk.block q (k1.lr q (.inr hq)) (k.x q hq).2, ?_⟩
  exact (Below.refl B w).setCell (p := ⟨b2, 1, none⟩) k.b _
theorem QX.duo (k : QX B X b d m h A L b2 L2 z w) : Duo B b d kN m h A L w := by
  obtain ⟨TD, TS, k1, k2, k3⟩ := k.s
  exact ⟨TD, TS, k1.kv, k2, k3⟩
theorem x_arm (k : QX B X b d m h A L b2 L2 z w) (hB : B ≤ w.heap.size) (f kp : Int) (torn : Bool) : Calls Try.prog 27 #[.pointer (some ⟨d, 0, none⟩), .int .i64 f, .int .i64 kp, .bool torn] w fun e w' => e = .returned (.tuple #[]) ∧ QX B X b d m { h with left := max f 0, keep := kp, torn := torn } A L b2 L2 z w' ∧ Below B w w' ∧ ∀ q, X q → w'.heap[q]? = w.heap[q]? := by
  obtain ⟨TD, TS, kv, hto⟩ := k.to hB
  refine (cArm kv.dv f kp torn).mono ?_
  rintro e w' ⟨h1, h2, h3⟩
  exact ⟨h1, hto _ _ _ _ (kv.dev (h2.mono (fun q hq => .inl hq)) h3)⟩
theorem x_on (k : QX B X b d m h A L b2 L2 z w) (hB : B ≤ w.heap.size) : Calls Try.prog 30 #[.pointer (some ⟨d, 0, none⟩)] w fun e w' => e = .returned (.tuple #[]) ∧ QX B X b d m { h with down := false } A L b2 L2 z w' ∧ Below B w w' ∧ ∀ q, X q → w'.heap[q]? = w.heap[q]? := by
  obtain ⟨TD, TS, kv, hto⟩ := k.to hB
  refine (cOn kv.dv).mono ?_
  rintro e w' ⟨h1, h2, h3⟩
  exact ⟨h1, hto _ _ _ _ (kv.dev (h2.mono (fun q hq => .inl hq)) h3)⟩
theorem x_off (k : QX B X b d m h A L b2 L2 z w) (hB : B ≤ w.heap.size) (ht : totA A ≤ 1048576) (hd : h.down = true) (kp : Int) (torn : Bool) : Calls Try.prog 29 #[.pointer (some ⟨d, 0, none⟩), .int .i64 kp, .bool torn] w fun e w' => e = .returned (.tuple #[]) ∧ QX B X b d m h A L b2 L2 z w' ∧ Below B w w' ∧ ∀ q, X q → w'.heap[q]? = w.heap[q]? := by
  obtain ⟨TD, TS, kv, hto⟩ := k.to hB
  refine (cOff kv.dv ht kp torn).mono ?_
  rintro e w' ⟨h1, h2, h3⟩
  rw [if_pos hd, if_pos hd] at h2
  exact ⟨h1, hto _ _ _ _ (kv.dev (h2.mono (fun q hq => .inl hq)) h3)⟩
/-- It is opened anew. -/
theorem x_open (k : QX B X b d m h A L b2 L2 z w) (hB : B ≤ w.heap.size) (ok : DvOk n h A) (hn : n ≤ 999998) (hm : 1 ≤ m ∧ m ≤ 4096) {h2 : Hd} {A2 : List Ab} {M : List En} (ho : openOut h A kN = (0, h2, A2, M)) :
    Calls Try.prog 12 #[.pointer (some ⟨d, 0, none⟩), .string kN, .int .i64 m] w fun e w' => ∃ b3, e = .returned (.tuple #[.pointer (some ⟨b3, 0, none⟩), .int .i64 0]) ∧ QX B X b3 d m h2 A2 M b2 L2 z w' ∧ Below B w w' ∧ ∀ q, X q → w'.heap[q]? = w.heap[q]? := by
  obtain ⟨TD, TS, k1, k2, k3⟩ := k.s
  refine (open_any k1.kv.dv k1.kv.ld ok (by omega) kN m (by decide) (by decide) hm).mono ?_
  intro e w' hr
  rw [ho] at hr
  rcases hr with ⟨_, b3, TD', TS', he, p1, p2, p3, p4⟩ | ⟨hr, _⟩
  · refine ⟨b3, he, ⟨⟨TD', TS', ⟨p1, k1.rs.kept p4 (fun q hq ho => k1.dj q hq (.inl ho)), fun q hq ho => ?_, fun q hq => Nat.lt_of_lt_of_le (k1.lr q hq) p4.size⟩, fun q hq => ?_, fun q hq => ?_⟩, k.b, k.x⟩, p4.below k2 hB, fun q hq => p4.block q (k1.lr q (.inr hq)) (fun ho => k1.dj q (.inr hq) (.inl ho))⟩
    · have := k1.lr q hq
      rcases ho with ho | ho
      · rcases p2 q ho with ho | ho
        · exact k1.dj q hq (.inl ho)
        · omega
      · have := p3 q ho; omega
    · rcases p2 q hq with hq | hq
      · exact k2 q hq
      · omega
    · have := p3 q hq; omega
  · exact absurd rfl hr
theorem x_has (k : QX B X b d m h A L b2 L2 z w) (bL : Bd N L) (hN : N ≤ 1048576) {M : List En} {u : Value} (hu : RowL X M u w) (hl : M.length ≤ 1048576) :
    Calls Try.prog 14 #[.pointer (some ⟨b, 0, none⟩), u] w fun e w' => e = .returned (.bool (decide (L = M))) ∧ Below w.heap.size w w' := has_duo k.duo bL hN hu.lat hl
theorem x_does (k : QX B X b d m h A L b2 L z w) (hB : B ≤ w.heap.size) (ok : DvOk n h A) (hn : n ≤ 999990) (bL : Bd 200 L) (hm : 1 ≤ m ∧ m ≤ 4096) (hzz : 0 ≤ z ∧ z ≤ 1099511627776) (c : Cl) (hk : c.key.size ≤ 4096) (hv : c.val.size ≤ 4096) (free : Int) :
    Calls Try.prog 13 #[.pointer (some ⟨b, 0, none⟩), .pointer (some ⟨b2, 0, none⟩), cA c, .int .i64 free] w fun e w' => e = .returned (.tuple #[.int .i64 (codeOut h A kN m L c).1.1, .int .i64 (refOut L m z free c).1]) ∧ (∃ X' : Nat → Prop, (∀ q, X q → X' q) ∧ QX B X' b d m (codeOut h A kN m L c).1.2.1 (codeOut h A kN m L c).1.2.2 (if (codeOut h A kN m L c).1.1 = 0 then (codeOut h A kN m L c).2 else L) b2 (refOut L m z free c).2.1 (refOut L m z free c).2.2 w') ∧ Below B w w' ∧ ∀ q, X q → w'.heap[q]? = w.heap[q]? := by
  obtain ⟨TD, TS, k1, k2, k3⟩ := k.s
  refine (does_any k1 ok hn (by decide) bL bL hm hm hzz c hk hv free).mono ?_
  rintro e w' ⟨TD', TS', TR', he, p1, p2, p3, p4, p5⟩
  have hb2 : TR' b2 := p1.rs.t
  refine ⟨he, ⟨fun q => X q ∨ (TR' q ∧ q ≠ b2 ∧ B ≤ q), fun q hq => .inl hq, ⟨TD', TS', ⟨p1.kv, p1.rs.mono (fun q hq => ?_), fun q hq ho => ?_, fun q hq => ?_⟩, fun q hq => ?_, fun q hq => ?_⟩, k.b, fun q hq => ?_⟩, p5.below (fun q hq => ?_) hB, fun q hq => p5.block q (k1.lr q (.inr hq)) (fun ho => ?_)⟩
  · by_cases e : q = b2
    · exact .inl e
    · refine .inr (.inr ⟨hq, e, ?_⟩)
      rcases p4 q hq with (h1 | h1) | h1
      · exact absurd h1 e
      · exact (k.x q h1).1
      · omega
  · rcases hq with rfl | hq | hq
    · exact p1.dj _ hb2 ho
    · have hl := k1.lr q (.inr hq)
      rcases ho with ho | ho
      · rcases p2 q ho with ho | ho
        · exact k1.dj q (.inr hq) (.inl ho)
        · omega
      · rcases p3 q ho with ho | ho
        · exact k1.dj q (.inr hq) (.inr ho)
        · omega
    · exact p1.dj q hq.1 ho
  · rcases hq with rfl | hq | hq
    · exact p1.lr _ hb2
    · exact Nat.lt_of_lt_of_le (k1.lr q (.inr hq)) p5.size
    · exact p1.lr q hq.1
  · rcases p2 q hq with hq | hq
    · exact k2 q hq
    · omega
  · rcases p3 q hq with hq | hq
    · exact k3 q hq
    · omega
  · rcases hq with hq | hq
    · exact k.x q hq
    · exact ⟨hq.2.2, hq.2.1⟩
  · rcases hq with (hq | hq) | hq
    · exact k2 q hq
    · exact k3 q hq
    · rw [hq]; exact k.b
  · rcases ho with ho | ho
    · exact k1.dj q (.inr hq) ho
    · exact (k.x q hq).2 ho
end
/-- A list of lists, in a row that no other holds. -/
structure Sts (X : Nat → Prop) (v : Value) (Ms : List (List En)) (w : World) : Prop where
  f : ∃ (g off cap : Nat) (cur : Array Value) (vs : List Value), v = .slice (some ⟨g, off, none⟩) Ms.length cap ∧ X g ∧ w.heap[g]? = some (.cells cur 32 (0, 0)) ∧ Ms.length ≤ cap ∧ cap ≤ maxLen ∧ cur.size = off + cap ∧ vs.length = Ms.length ∧ (∀ i : Nat, i < Ms.length → cur[off + i]? = vs[i]?) ∧ ∀ (i : Nat) M u, Ms[i]? = some M → vs[i]? = some u → RowL X M u w
section
variable {X X' : Nat → Prop} {v : Value} {Ms : List (List En)} {w w' : World}
theorem Sts.same (k : Sts X v Ms w) (h : ∀ q, X q → w'.heap[q]? = w.heap[q]?) (hX : ∀ q, X q → X' q) : Sts X' v Ms w' := by
  obtain ⟨g, off, cap, cur, vs, h1, h2, h3, h4, h5, h6, h7, h8, h9⟩ := k.f
  exact ⟨g, off, cap, cur, vs, h1, hX g h2, (h g h2).trans h3, h4, h5, h6, h7, h8, fun i M u a b => ((h9 i M u a b).same h).mono hX⟩
theorem Sts.shape (k : Sts X v Ms w) : ∃ g off cap, v = .slice (some ⟨g, off, none⟩) Ms.length cap ∧ Ms.length ≤ cap ∧ cap ≤ maxLen ∧ ∀ (i : Nat) M, Ms[i]? = some M → ∃ p c, w.cell? ⟨g, off + i, none⟩ = some (.slice p M.length c) ∧ RowL X M (.slice p M.length c) w := by
  obtain ⟨g, off, cap, cur, vs, h1, h2, h3, h4, h5, h6, h7, h8, h9⟩ := k.f
  refine ⟨g, off, cap, h1, h4, h5, fun i M hM => ?_⟩
  have hi : i < Ms.length := (List.getElem?_eq_some_iff.1 hM).1
  obtain ⟨u, hu⟩ : ∃ u, vs[i]? = some u := ⟨_, List.getElem?_eq_getElem (by omega)⟩
  have hr := h9 i M u hM hu
  obtain ⟨p, c, rfl⟩ := hr.slice
  refine ⟨p, c, ?_, hr⟩
  rw [block_cell h3, h8 i hi, hu]
/-- The last one alone. -/
theorem Sts.last {L : List En} {g off cap k : Nat} (s : Sts X (.slice (some ⟨g, off, none⟩) (k + 1) cap) Ms w) (hk : Ms.length = k + 1) (hl : Ms[k]? = some L) : Sts X (.slice (some ⟨g, off + k, none⟩) 1 (cap - k)) [L] w := by
  obtain ⟨g', off', cap', cur, vs, h1, h2, h3, h4, h5, h6, h7, h8, h9⟩ := s.f
  injection h1 with h1 _ hc
  injection h1 with h1
  injection h1 with h1 h1'
  subst h1 h1' hc
  obtain ⟨u, hu⟩ : ∃ u, vs[k]? = some u := ⟨_, List.getElem?_eq_getElem (by omega)⟩
  refine ⟨g, off + k, cap - k, cur, [u], rfl, h2, h3, by simp; omega, by omega, by omega, rfl, fun i hi => ?_, fun i M x a b => ?_⟩
  · obtain rfl : i = 0 := by simpa using hi
    rw [Nat.add_zero, h8 k (by omega), hu]
    rfl
  · have hi : i < 1 := (List.getElem?_eq_some_iff.1 a).1
    obtain rfl : i = 0 := by omega
    simp at a b
    subst a b
    exact h9 k L u hl hu
/-- One list alone, in a block that was just made. -/
theorem Sts.one {g : Nat} {M : List En} {u : Value} (hg : X g) (hb : w.heap[g]? = some (.cells #[u] 32 (0, 0))) (hu : RowL X M u w) : Sts X (.slice (some ⟨g, 0, none⟩) 1 1) [M] w := by
  refine ⟨g, 0, 1, #[u], [u], rfl, hg, hb, Nat.le_refl _, by decide, rfl, rfl, fun i hi => ?_, fun i M' x a b => ?_⟩
  · obtain rfl : i = 0 := by simpa using hi
    rfl
  · have hi : i < 1 := (List.getElem?_eq_some_iff.1 a).1
    obtain rfl : i = 0 := by omega
    simp at a b
    subst a b
    exact hu
theorem Sts.len (k : Sts X v Ms w) : Ms.length ≤ maxLen := by
  obtain ⟨g, off, cap, cur, vs, h1, h2, h3, h4, h5, _⟩ := k.f
  omega
/-- One list more: what the append leaves. -/
structure StA (X : Nat → Prop) (v : Value) (Ms : List (List En)) (w w' : World) : Prop where
  x : ∃ X' : Nat → Prop, (∀ q, X q → X' q) ∧ (∀ q, X' q → X q ∨ (w.heap.size ≤ q ∧ q < w'.heap.size)) ∧ Sts X' v Ms w'
  g : ∃ (g : Nat) (cur : Array Value), X g ∧ w.heap[g]? = some (.cells cur 32 (0, 0)) ∧ w.grownBy w' (some g)
theorem cell_ne {w : World} {a b : Nat} {x y : Array Value} {s t : TypeId} (h1 : w.heap[a]? = some (.cells x s (0, 0))) (h2 : w.heap[b]? = some (.cells y t (0, 0))) (h : s ≠ t) : a ≠ b := fun e => by
  subst e
  rw [h1] at h2
  injection h2 with h2
  injection h2 with _ h2
  exact h h2
theorem RowL.grown {L : List En} {v : Value} {g : Nat} {cur : Array Value} (k : RowL X L v w) (hg : w.heap[g]? = some (.cells cur 32 (0, 0))) (h : w.grownBy w' (some g)) : RowL X L v w' := by
  obtain ⟨bb, q1, q2⟩ := k.f
  refine ⟨bb, ownG_same q1 (fun e he => ?_), q2⟩
  obtain ⟨hlt, _, c2, hc⟩ := ownG_lt q1 e he
  refine h.block e hlt (fun e2 => ?_)
  injection e2 with e2
  exact cell_ne hc hg (by decide) e2
theorem sts_append (k : Sts X v Ms w) {M : List En} {u : Value} (hu : RowL X M u w) {b0 : Nat} (hb : w.heap[b0]? = some (.cells #[u] 32 (0, 0))) (hlt : ∀ q, X q → q < w.heap.size) (hl : Ms.length ≤ 4194304) :
    ∃ v' w', (Builtin.append_ #[52, 52] 52 #[v, .slice (some ⟨b0, 0, none⟩) 1 1]).run Try.prog w = .ok v' w' ∧ StA X v' (Ms ++ [M]) w w' := by
  obtain ⟨g, off, cap, cur, vs, rfl, h2, h3, h4, h5, h6, h7, h8, h9⟩ := k.f
  have hinfo : (Try.prog.info? 32).map (fun i => (i.zero, i.size, i.bytes)) = some (some (.slice none 0 0), 1, 24) := by kernel_rfl
  obtain ⟨i0, hi, hz0, hz1, hz2⟩ := info_parts hinfo
  obtain ⟨p, c, hus⟩ := hu.slice
  have hnews : ∀ (j : Nat) x, [u][j]? = some x → w.cell? ((⟨b0, 0, none⟩ : Addr).add j) = some x := fun j x hj => by
    have hj1 : j < 1 := (List.getElem?_eq_some_iff.1 hj).1
    obtain rfl : j = 0 := by omega
    simp at hj
    subst hj
    rw [G.add_none, block_cell hb]
    rfl
  have h1c : ∀ x ∈ [u], x.oneCell' = true := fun x hx => by rw [List.mem_singleton.1 hx, hus]; rfl
  by_cases hr : Ms.length + 1 ≤ cap
  · have hcell : ∀ j, j < [u].length → w.cell? ⟨g, off + Ms.length * i0.size + j, none⟩ = cur[off + Ms.length]? := fun j hj => by
      obtain rfl : j = 0 := by simpa using hj
      rw [hz1, Nat.mul_one, Nat.add_zero, block_cell h3]
    have hsome : ∀ j, j < [u].length → (w.cell? ⟨g, off + Ms.length * i0.size + j, none⟩).isSome = true := fun j hj => by
      rw [hcell j hj, Array.getElem?_eq_getElem (by omega)]
      rfl
    have hrun := run_append_room_cells (P := Try.prog) w 52 52 32 i0 Try.underlying52 hi g off Ms.length cap ⟨b0, 0, none⟩ 1 1 [u] (by rw [hz1]; rfl) hnews h1c hr hsome (fun j hj => block_free h3 _)
    have hsc : w.setCells g (off + Ms.length * i0.size) [u] = w.setCell ⟨g, off + Ms.length, none⟩ u := by
      rw [hz1, Nat.mul_one]
      rfl
    rw [hsc] at hrun
    have hgb : w.grownBy (w.setCell ⟨g, off + Ms.length, none⟩ u) (some g) := ⟨rfl, rfl, rfl, by rw [set_size]; exact Nat.le_refl _, fun q hq hne => (kept_cell (T := fun q => q = g) rfl).block q hq (fun e => hne (by rw [e]))⟩
    refine ⟨_, _, hrun, ⟨X, fun q hq => hq, fun q hq => .inl hq, ?_⟩, g, cur, h2, h3, hgb⟩
    have hbs := block_set (i := off + Ms.length) (u := u) h3
    refine ⟨g, off, cap, _, vs ++ [u], by rw [List.length_append, List.length_singleton], h2, hbs, by rw [List.length_append, List.length_singleton]; exact hr, h5, by rw [Array.size_setIfInBounds]; exact h6, by rw [List.length_append, List.length_append, h7]; rfl, fun i hi2 => ?_, fun i M' x a b => ?_⟩
    · rw [List.length_append, List.length_singleton] at hi2
      by_cases hi3 : i < Ms.length
      · rw [Array.getElem?_setIfInBounds_ne (by omega), h8 i hi3, List.getElem?_append_left (by omega)]
      · obtain rfl : i = Ms.length := by omega
        rw [Array.getElem?_setIfInBounds_self_of_lt (by omega), List.getElem?_append_right (by omega), h7, Nat.sub_self]
        rfl
    · have hrow : RowL X M' x w := by
        by_cases hi3 : i < Ms.length
        · rw [List.getElem?_append_left hi3] at a
          rw [List.getElem?_append_left (by omega)] at b
          exact h9 i M' x a b
        · have hi4 : i < Ms.length + 1 := by
            have := (List.getElem?_eq_some_iff.1 a).1
            simpa using this
          obtain rfl : i = Ms.length := by omega
          rw [List.getElem?_append_right (Nat.le_refl _), Nat.sub_self] at a
          rw [List.getElem?_append_right (by omega), h7, Nat.sub_self] at b
          simp at a b
          subst a b
          exact hu
      exact hrow.grown h3 hgb
  · have hcells : ∀ (j : Nat) x, vs[j]? = some x → w.cell? ((⟨g, off, none⟩ : Addr).add j) = some x := fun j x hj => by
      have hj1 : j < vs.length := (List.getElem?_eq_some_iff.1 hj).1
      rw [G.add_none, block_cell h3, h8 j (by omega)]
      exact hj
    obtain ⟨v', w', hrun, r1, r2⟩ := run_append_arg_grows (P := Try.prog) w 52 52 32 i0 _ 1 24 Try.underlying52 hi hz0 hz1 hz2 rfl (by decide) ⟨g, off, none⟩ Ms.length cap vs (by rw [h7, Nat.mul_one]) hcells ⟨b0, 0, none⟩ 1 1 [u] rfl hnews (by omega) (by unfold maxLen; omega) (by omega)
    have hgb : w.grownBy w' (some g) := ⟨r2.os, r2.tape, r2.output, r2.size, fun q hq _ => r2.block q hq (by simp)⟩
    refine ⟨v', w', hrun, ⟨Gr X w w', fun q hq => .inl hq, fun q hq => hq, ?_⟩, g, cur, h2, h3, hgb⟩
    rcases r1.2 with ⟨_, h0⟩ | ⟨g2, cap2, cur2, rfl, q1, q2, q3, q4, q5, q6⟩
    · omega
    · have hg2 := lt_of_block q2
      refine ⟨g2, 0, cap2, cur2, vs ++ [u], by rw [List.length_append, List.length_singleton], .inr ⟨q1, hg2⟩, q2, by rw [List.length_append, List.length_singleton]; exact q3, q4, by rw [q5]; omega, by rw [List.length_append, List.length_append, h7]; rfl, fun i hi2 => ?_, fun i M' x a b => ?_⟩
      · rw [← q6, List.getElem?_take_of_lt (by rw [List.length_append, List.length_singleton] at hi2; omega), Array.getElem?_toList, Nat.zero_add]
      · have hrow : RowL X M' x w := by
          by_cases hi3 : i < Ms.length
          · rw [List.getElem?_append_left hi3] at a
            rw [List.getElem?_append_left (by omega)] at b
            exact h9 i M' x a b
          · have hi4 : i < Ms.length + 1 := by
              have := (List.getElem?_eq_some_iff.1 a).1
              simpa using this
            obtain rfl : i = Ms.length := by omega
            rw [List.getElem?_append_right (Nat.le_refl _), Nat.sub_self] at a
            rw [List.getElem?_append_right (by omega), h7, Nat.sub_self] at b
            simp at a b
            subst a b
            exact hu
        exact (hrow.grown h3 hgb).mono (fun q hq => .inl hq)
theorem wpList_append_sts {ops : Array Oper} {rest : List Oper} {o : Oper} {a : Act} {Q : Exit → Act → World → Prop} (hgd : o.guard = none) (s x : Operand)
    (ho : o.op = .call { callee := .builtin .append, args := #[s, x], argTypes := #[52, 52] }) (hty : o.type = 52) (k : Sts X v Ms w) {M : List En} {u : Value} (hu : RowL X M u w) {b0 : Nat} (hb : w.heap[b0]? = some (.cells #[u] 32 (0, 0))) (hlt : ∀ q, X q → q < w.heap.size) (hl : Ms.length ≤ 4194304)
    (hs : a.eval s = v) (hx : a.eval x = .slice (some ⟨b0, 0, none⟩) 1 1)
    (h : ∀ v' w', StA X v' (Ms ++ [M]) w w' → wpList Try.prog ops Q rest (a.put o.dst v') w') : wpList Try.prog ops Q (o :: rest) a w := by
  obtain ⟨v', w', h1, h2⟩ := sts_append k hu hb hlt hl
  refine wpList_plain hgd fun K hK' => ?_
  unfold Oper.wp
  simp [execOp, ho, hty, resolve, invoke, builtin, hs, hx, h1, Result.andThen]
  exact hK' _ _ (h v' w' h2)
end
/-- Behind an append onto the list of lists. -/
theorem QX.grown {B b d b2 : Nat} {X X' : Nat → Prop} {m z : Int} {h : Hd} {A : List Ab} {L L2 : List En} {w w' : World} (k : QX B X b d m h A L b2 L2 z w) {g : Nat} {cur : Array Value} (hx : X g) (hg : w.heap[g]? = some (.cells cur 32 (0, 0))) (hgb : w.grownBy w' (some g)) (h1 : ∀ q, X q → X' q) (h2 : ∀ q, X' q → X q ∨ (w.heap.size ≤ q ∧ q < w'.heap.size)) (hB : B ≤ w.heap.size) : QX B X' b d m h A L b2 L2 z w' ∧ Below B w w' := by
  obtain ⟨TD, TS, k1, k2, k3⟩ := k.s
  have hk : Kept (fun q => q = g) w w' := ⟨hgb.os, hgb.tape, hgb.output, hgb.size, fun q hq hne => hgb.block q hq (fun e => by injection e with e; exact hne e)⟩
  obtain ⟨p, c, hb2, hrow⟩ := k.row
  refine ⟨⟨⟨TD, TS, ⟨⟨k1.kv.dv.kept hk (fun q hq e => k1.dj g (.inr hx) (.inl (e ▸ hq))), k1.kv.st.kept hk (fun q hq e => k1.dj g (.inr hx) (.inr (e ▸ hq))), k1.kv.dj, fun q hq => Nat.lt_of_lt_of_le (k1.kv.ld q hq) hk.size, fun q hq => Nat.lt_of_lt_of_le (k1.kv.ls q hq) hk.size⟩, ⟨⟨_, (hk.block b2 (lt_of_block hb2) (fun e => (k.x g hx).2 e.symm)).trans hb2, (hrow.grown hg hgb).mono (fun q hq => .inr (h1 q hq))⟩, .inl rfl⟩, fun q hq ho => ?_, fun q hq => ?_⟩, k2, k3⟩, k.b, fun q hq => ?_⟩, hk.below (fun q hq => by rw [hq]; exact (k.x g hx).1) hB⟩
  · have hlt : q < w.heap.size := by
      rcases ho with ho | ho
      · exact k1.kv.ld q ho
      · exact k1.kv.ls q ho
    rcases hq with hq | hq
    · exact k1.dj q (.inl hq) ho
    · rcases h2 q hq with hq | hq
      · exact k1.dj q (.inr hq) ho
      · omega
  · rcases hq with rfl | hq
    · exact Nat.lt_of_lt_of_le (lt_of_block hb2) hk.size
    · rcases h2 q hq with hq | hq
      · exact Nat.lt_of_lt_of_le (k1.lr q (.inr hq)) hk.size
      · exact hq.2
  · rcases h2 q hq with hq | hq
    · exact k.x q hq
    · have := lt_of_block hb2
      exact ⟨by omega, by omega⟩
end Go.Proofs.Ytbdlmdmbaajcmaa
namespace Go.Proofs.Ytbdlmdmbaajcmaa
set_option linter.unusedVariables false
set_option linter.unusedSimpArgs false
open Go.ChangeShapes Go.WideShapes Go.ChangeAt Go.RowKit

set_option maxRecDepth 100000 in
set_option maxHeartbeats 1000000 in
/-- A copy of the document's store. -/
theorem copy_any {b : Nat} {m : Int} {lv : Value} {z : Int} {w : World} (hb : w.heap[b]? = some (.cells (rsA m lv z) 34 (0, 0))) (hlv : ∃ p n c, lv = .slice p n c) :
    Calls Try.prog 23 #[.pointer (some ⟨b, 0, none⟩)] w fun e w' => ∃ bw, e = .returned (.pointer (some ⟨bw, 0, none⟩)) ∧ w.heap.size ≤ bw ∧ Below w.heap.size w w' ∧ w'.heap[bw]? = some (.cells (rsA m lv z) 34 (0, 0)) := by
  obtain ⟨p, n, c, rfl⟩ := hlv
  have c0 := block_cell hb 0
  have c1 := block_cell hb 1
  have c2 := block_cell hb 2
  have hB := (Below.refl w.heap.size w).alloc (Nat.le_refl _) (.cells (rsA m (.slice p n c) z) 34)
  have hN := heap_alloc_new w (.cells (rsA m (.slice p n c) z) 34)
  have HB := Lib.hid hB
  have HN := Lib.hid hN
  unfold rsA at c0 c1 c2 HB HN ⊢
  simp at c0 c1 c2
  clear hb hB hN
  go_enter Try.func23, Try.ntmps23
  go_wp2_with fail
  go_ret
  exact ⟨_, rfl, Nat.le_refl _, HB.out, HN.out⟩
/-- Bounds of a state. -/
structure Bs (j : Nat) (m : Int) (T : Nat) (M : List En) : Prop where
  b : Bd j M
  l : (M.length : Int) ≤ m
  s : sumL M ≤ T
theorem Bs.more {j j2 : Nat} {m : Int} {T T2 : Nat} {M : List En} (k : Bs j m T M) (h1 : j ≤ j2) (h2 : T ≤ T2) : Bs j2 m T2 M := ⟨k.b.mono h1, k.l, Nat.le_trans k.s h2⟩
theorem Bs.drop {j : Nat} {m : Int} {T : Nat} {M : List En} (k : Bs j m T M) (n : Nat) : Bs j m T (M.drop n) := ⟨k.b.drop n, by have := k.l; rw [List.length_drop]; omega, Nat.le_trans (sumL_sub (List.drop_sublist n M)) k.s⟩
theorem mid_gone {L : List En} (n i : Nat) (hL : ∀ e ∈ L, e.1.size ≤ 4096) : doAll L (((L.take n).map (fun e => goneB e.1)).take i) = L.drop (min i n) := by
  rw [← List.map_take, List.take_take]
  exact doAll_gone _ L (fun e he => by have := hL e he; omega)
/-- What lies between. -/
theorem mids {j : Nat} {m : Int} {T : Nat} {L : List En} (k : Bs j m T L) (hm : 1 ≤ m) (c : Cl) (hk : c.key.size ≤ 4096) (hv : c.val.size ≤ 4096) (e : (refOut L m 0 1048576 c).2.1 = doAll L (recsOf L m c)) (i : Nat) (hi : i ≤ (recsOf L m c).length) : Bs (j + 1) m (T + (c.key.size + c.val.size)) (doAll L ((recsOf L m c).take i)) := by
  have hL : ∀ e ∈ L, e.1.size ≤ 4096 := fun e he => (k.b.s e he).1
  by_cases hi2 : i = (recsOf L m c).length
  · subst hi2
    rw [List.take_length, ← e]
    exact ⟨ref_bd k.b m 0 1048576 c hk hv, ref_len hL m 0 1048576 c hm k.l hk hv, Nat.le_trans (ref_sum hL m 0 1048576 c hk hv) (by have := k.s; omega)⟩
  · have hlt : i < (recsOf L m c).length := by omega
    have hdrop : ∃ n, doAll L ((recsOf L m c).take i) = L.drop n := by
      unfold recsOf at hlt ⊢
      split at hlt
      · rename_i h0
        rw [if_pos h0]
        unfold stepsRs at hlt ⊢
        split at hlt
        · simp at hlt
        · rename_i hg
          rw [if_neg hg]
          unfold putRs at hlt ⊢
          rw [List.length_append, List.length_singleton] at hlt
          rw [List.take_append_of_le_length (by omega)]
          cases whereL L c.key with
          | some q => exact ⟨0, by simp [doAll]⟩
          | none => exact ⟨_, mid_gone _ _ hL⟩
      · rename_i h0
        split at hlt
        · rename_i h1
          rw [if_neg h0, if_pos h1]
          exact ⟨_, mid_gone _ _ hL⟩
        · simp at hlt
    obtain ⟨n, hn⟩ := hdrop
    rw [hn]
    exact (k.drop n).more (by omega) (by omega)
theorem recs_len {L : List En} {m : Int} {c : Cl} : (recsOf L m c).length ≤ L.length + 1 := by
  unfold recsOf
  split
  · unfold stepsRs
    split
    · simp
    · exact putRs_len _ _ _ _
  · split
    · have := ev_len L c.n; omega
    · simp
theorem recs_known {N : Nat} {L : List En} (b : Bd N L) (m : Int) {c : Cl} (hk : c.key.size ≤ 4096) (hv : c.val.size ≤ 4096) : ∀ r ∈ recsOf L m c, r.size ≤ 8227 := fun r hr => by
  unfold recsOf at hr
  split at hr
  · unfold stepsRs at hr
    split at hr
    · cases hr
    · exact b.putRs m hk hv r hr
  · split at hr
    · exact b.evRs c.n r hr
    · cases hr
theorem stL_at (R : List ByteArray) (L : List En) (i : Nat) (hi : i < R.length) : (stL L R).take (i + 1) = (stL L R).take i ++ [doAll L (R.take (i + 1))] := by
  have h1 : ∀ (R : List ByteArray) (L : List En) (i : Nat), i < R.length → (stL L R)[i]? = some (doAll L (R.take (i + 1))) := by
    intro R
    induction R with
    | nil => intro L i h; simp at h
    | cons r R ih =>
      intro L i h
      cases i with
      | zero => rfl
      | succ i =>
        show (stL (doG L r) R)[i]? = some (doAll (doG L r) (R.take (i + 1)))
        exact ih _ i (by simpa using h)
  rw [List.take_add_one, h1 R L i hi]
  rfl
theorem doAll_at (R : List ByteArray) (L : List En) (i : Nat) (hi : i < R.length) : doAll L (R.take (i + 1)) = doG (doAll L (R.take i)) R[i] := by
  rw [List.take_add_one, List.getElem?_eq_getElem hi]
  unfold doAll
  rw [List.foldl_append]
  rfl
/-- A store on a new device, and the document's, and a list of one list. -/
theorem start_x {B b d : Nat} {m : Int} {h : Hd} {w : World} (k : Duo B b d kN m h [] [] w) (hB : B ≤ w.heap.size) :
    QX B (fun q => q = w.heap.size + 1) b d m h [] [] w.heap.size [] 0 ((w.alloc (.cells (rsA m (.slice none 0 0) 0) 34)).alloc (.cells #[.slice none 0 0] 32)) ∧ Sts (fun q => q = w.heap.size + 1) (.slice (some ⟨w.heap.size + 1, 0, none⟩) 1 1) [[]] ((w.alloc (.cells (rsA m (.slice none 0 0) 0) 34)).alloc (.cells #[.slice none 0 0] 32)) ∧ Below B w ((w.alloc (.cells (rsA m (.slice none 0 0) 0) 34)).alloc (.cells #[.slice none 0 0] 32)) := by
  obtain ⟨TD, TS, k1, k2, k3⟩ := k.s
  have m1 := (Below.refl w.heap.size w).alloc (Nat.le_refl _) (.cells (rsA m (.slice none 0 0) 0) 34)
  have n1 := heap_alloc_new w (.cells (rsA m (.slice none 0 0) 0) 34)
  have s1 : (w.alloc (.cells (rsA m (.slice none 0 0) 0) 34)).heap.size = w.heap.size + 1 := by simp
  generalize w.alloc (.cells (rsA m (.slice none 0 0) 0) 34) = wa at *
  have m2 := (Below.refl wa.heap.size wa).alloc (Nat.le_refl _) (.cells #[.slice none 0 0] 32)
  have n2 := heap_alloc_new wa (.cells #[.slice none 0 0] 32)
  have s2 : (wa.alloc (.cells #[.slice none 0 0] 32)).heap.size = wa.heap.size + 1 := by simp
  generalize wa.alloc (.cells #[.slice none 0 0] 32) = wb at *
  have m3 := m1.trans (m2.mono m1.size)
  have n3 := (m2.block _ (lt_of_block n1)).trans n1
  rw [s1] at n2
  have hnil : ∀ T, RowL T [] (.slice none 0 0) wb := fun T => ⟨0, ⟨rfl, .inl ⟨rfl, rfl⟩⟩, fun g hg => by cases hg⟩
  refine ⟨⟨⟨TD, TS, ⟨k1.below m3, ⟨⟨_, n3, hnil _⟩, .inl rfl⟩, fun q hq ho => ?_, fun q hq => by omega⟩, k2, k3⟩, hB, fun q hq => ⟨by omega, by omega⟩⟩, Sts.one rfl n2 (hnil _), m3.mono hB⟩
  have : q < w.heap.size := by
    rcases ho with ho | ho
    · exact k1.ld q ho
    · exact k1.ls q ho
  omega
section
variable {B b d b2 : Nat} {X : Nat → Prop} {m z y : Int} {h : Hd} {A : List Ab} {L L2 : List En} {w w' : World} {n N zz : Nat} {Ms : List (List En)}
/-- What a call leads to. -/
structure XCall (B : Nat) (X : Nat → Prop) (b d : Nat) (m : Int) (h : Hd) (L : List En) (b2 : Nat) (y : Int) (n zz : Nat) (Ms : List (List En)) (c : Cl) (x1 : Int) (w w' : World) : Prop where
  f : ∃ X' h2 A2 L2, (∀ q, X q → X' q) ∧ QX B X' b d m h2 A2 L2 b2 (doAll L (recsOf L m c)) (refOut L m y 1048576 c).2.2 w' ∧ DvOk (n + 3) h2 A2 ∧ h2.room = 1048576 ∧
    ((x1 = (refOut L m y 1048576 c).1 ∧ L2 = doAll L (recsOf L m c) ∧ h2.down = false ∧ Hs A2 kN (if c.kind = 2 ∨ c.kind = 3 then [L] else Ms ++ stL L (recsOf L m c)) (doAll L (recsOf L m c)) (zz + 8271)) ∨
     (x1 = 7 ∧ h2.down = true ∧ Wr A2 kN (Ms ++ stL L (recsOf L m c)) (zz + 8271)))
  b : Below B w w'
  k : ∀ q, X q → w'.heap[q]? = w.heap[q]?
theorem x_call (k : QX B X b d m h A L b2 L y w) (hB : B ≤ w.heap.size) (ok : DvOk n h A) (hn : n ≤ 999990) (hd : h.down = false) (hr : h.room = 1048576) (hs : Hs A kN Ms L zz) (hz : zz ≤ 900000) (bL : Bd 200 L) (hm : 1 ≤ m ∧ m ≤ 4096) (hyy : 0 ≤ y ∧ y ≤ 1099511627776) (c : Cl) (hk : c.key.size ≤ 4096) (hv : c.val.size ≤ 4096) (cost : Cost L m c) :
    Calls Try.prog 13 #[.pointer (some ⟨b, 0, none⟩), .pointer (some ⟨b2, 0, none⟩), cA c, .int .i64 1048576] w fun e w' => ∃ x1, e = .returned (.tuple #[.int .i64 x1, .int .i64 (refOut L m y 1048576 c).1]) ∧ XCall B X b d m h L b2 y n zz Ms c x1 w w' := by
  obtain ⟨r1, r2, r3, r4⟩ := arm_two hd kN_good kN_new hs bL m c hk hv cost (by rw [hr]; omega) y
  have hok := code_ok ok hs.nd kN m L c
  refine (x_does k hB ok hn bL hm hyy c hk hv 1048576).mono ?_
  rintro e w' ⟨he, ⟨X', hX, hq⟩, hb, hkp⟩
  rw [r1] at hq
  rcases r4 with ⟨h2, A2, q1, q2, q3, q4, q5⟩ | ⟨h2, A2, q1, q2, q3, q4⟩
  · rw [q2] at hq
    rw [q1] at hq hok he
    exact ⟨_, he, ⟨X', h2, A2, _, hX, hq, hok, by rw [q4, hr], .inl ⟨rfl, rfl, q3, q5⟩⟩, hb, hkp⟩
  · rw [q1] at hq hok he
    rw [if_neg (by simp)] at hq
    exact ⟨_, he, ⟨X', h2, A2, _, hX, hq, hok, by rw [q3, hr], .inr ⟨rfl, q2, q4⟩⟩, hb, hkp⟩
end
/-- The call's box, the copy, the records: other memory. -/
structure Aux (X : Nat → Prop) (bx bw : Nat) (cl wa : Array Value) (sv : Value) (R : List ByteArray) (w : World) : Prop where
  x : X bx ∧ w.heap[bx]? = some (.cells cl 36 (0, 0))
  c : X bw ∧ w.heap[bw]? = some (.cells wa 34 (0, 0))
  s : ∃ base, w.ownsRow base 9 1 sv R.length (R.map Value.string) ∧ ∀ g, sv.ownBlock = some g → X g
theorem Aux.same {X X' : Nat → Prop} {bx bw : Nat} {cl wa : Array Value} {sv : Value} {R : List ByteArray} {w w' : World} (k : Aux X bx bw cl wa sv R w) (h : ∀ q, X q → w'.heap[q]? = w.heap[q]?) (hX : ∀ q, X q → X' q) : Aux X' bx bw cl wa sv R w' := by
  obtain ⟨base, h1, h2⟩ := k.s
  exact ⟨⟨hX _ k.x.1, (h _ k.x.1).trans k.x.2⟩, ⟨hX _ k.c.1, (h _ k.c.1).trans k.c.2⟩, base, ownG_same h1 (fun g hg => h g (h2 g hg)), fun g hg => hX g (h2 g hg)⟩
theorem Aux.grown {X X' : Nat → Prop} {bx bw : Nat} {cl wa : Array Value} {sv : Value} {R : List ByteArray} {w w' : World} (k : Aux X bx bw cl wa sv R w) {g : Nat} {cur : Array Value} (hg : w.heap[g]? = some (.cells cur 32 (0, 0))) (h : w.grownBy w' (some g)) (hX : ∀ q, X q → X' q) : Aux X' bx bw cl wa sv R w' := by
  obtain ⟨base, h1, h2⟩ := k.s
  have hk : ∀ (q : Nat) x t, w.heap[q]? = some (.cells x t (0, 0)) → t ≠ 32 → w'.heap[q]? = w.heap[q]? := fun q x t hq ht => h.block q (lt_of_block hq) (fun e => by
    injection e with e
    exact cell_ne hq hg ht e)
  refine ⟨⟨hX _ k.x.1, (hk _ _ _ k.x.2 (by decide)).trans k.x.2⟩, ⟨hX _ k.c.1, (hk _ _ _ k.c.2 (by decide)).trans k.c.2⟩, base, ownG_same h1 (fun e he => ?_), fun g hg => hX g (h2 g hg)⟩
  obtain ⟨_, _, c2, hc⟩ := ownG_lt h1 e he
  exact hk _ _ _ hc (by decide)
end Go.Proofs.Ytbdlmdmbaajcmaa
