/- Plain: what is joined is split, and the other way round. -/
import Derived.Test.YtdhaanaenklleaaDoorQ4
import Derived.Test.YtdhaanaenklleaaDoorXSJm
namespace Go.Proofs.YtdhaanaenklleaaDoor.S

theorem ba_ext {a b : ByteArray} (h : a.data.toList = b.data.toList) : a = b := ByteArray.ext (Array.toList_inj.1 h)
theorem ba_append (a b : ByteArray) : (a ++ b).data.toList = a.data.toList ++ b.data.toList := by simp only [ByteArray.data_append, Array.toList_append]
theorem ba_len (a : ByteArray) : a.data.toList.length = a.size := (Lib.size_eq a).symm
theorem mkB_toList (l : List UInt8) : (mkB l).data.toList = l := rfl

theorem be8 (a b c d e f g h : UInt8) : be [a, b, c, d, e, f, g, h] = 72057594037927936 * a.toNat + 281474976710656 * b.toNat + 1099511627776 * c.toNat + 4294967296 * d.toNat + 16777216 * e.toNat + 65536 * f.toNat + 256 * g.toNat + h.toNat := by
  simp [be]; omega

def dg (x j : Nat) : UInt8 := UInt8.ofNat (x / 256 ^ j % 256)
theorem dg_nat (x j : Nat) : (dg x j).toNat = x / 256 ^ j % 256 := by simp [dg]
theorem numB_list (x : Nat) : (numB x).data.toList = [dg x 7, dg x 6, dg x 5, dg x 4, dg x 3, dg x 2, dg x 1, dg x 0] := rfl

theorem be_num (x : Nat) (h : x < 18446744073709551616) : be (numB x).data.toList = x := by
  rw [numB_list, be8]
  simp only [dg_nat, Nat.reducePow, Nat.pow_zero, Nat.div_one]
  omega

theorem num_be (l : List UInt8) (h : l.length = 8) : (numB (be l)).data.toList = l := by
  match l, h with
  | [a, b, c, d, e, f, g, i], _ =>
    have ha := a.toNat_lt; have hb := b.toNat_lt; have hc := c.toNat_lt; have hd := d.toNat_lt
    have he := e.toNat_lt; have hf := f.toNat_lt; have hg := g.toNat_lt; have hi := i.toNat_lt
    have key : ∀ (u : UInt8) (j : Nat), (dg (be [a, b, c, d, e, f, g, i]) j).toNat = u.toNat → dg (be [a, b, c, d, e, f, g, i]) j = u := fun u j h => UInt8.toNat_inj.1 h
    rw [numB_list, key a 7, key b 6, key c 5, key d 4, key e 3, key f 2, key g 1, key i 0] <;>
      (rw [dg_nat, be8]; simp only [Nat.reducePow, Nat.pow_zero, Nat.div_one]; omega)

theorem len8_of {s : ByteArray} {x : Nat} {t : List UInt8} (h : s.data.toList = (numB x).data.toList ++ t) (hx : x < 18446744073709551616) : len8 s = x := by
  unfold len8
  rw [h, List.take_append_of_le_length (by rw [numB_len]; omega), List.take_of_length_le (by rw [numB_len]; omega), be_num x hx]

theorem cutB_join (s p : ByteArray) (t : List UInt8) (h : s.data.toList = (numB p.size).data.toList ++ p.data.toList ++ t) (hp : p.size < 18446744073709551616) : cutB s = some (p, mkB t) := by
  have hl : len8 s = p.size := len8_of (by rw [h, List.append_assoc]) hp
  have hs : s.size = 8 + p.size + t.length := by rw [← ba_len, h, List.length_append, List.length_append, numB_len, ba_len]
  unfold cutB
  rw [if_neg (by omega), if_neg (by omega), hl]
  have e1 : s.extract 8 (8 + p.size) = p := ba_ext (by
    rw [Lib.extract_data, h, List.append_assoc, List.drop_append_of_le_length (by rw [numB_len]; omega), List.drop_of_length_le (by rw [numB_len]; omega), List.nil_append,
      List.take_append_of_le_length (by rw [ba_len]; omega), List.take_of_length_le (by rw [ba_len]; omega)])
  have e2 : s.extract (8 + p.size) s.size = mkB t := ba_ext (by
    rw [Lib.extract_data, h, mkB_toList, List.drop_left' (by rw [List.length_append, numB_len, ba_len]), List.take_of_length_le (by omega)])
  rw [e1, e2]

theorem cutsB_join : ∀ (ss : List ByteArray) (s : ByteArray) (t : List UInt8), s.data.toList = partsL ss ++ t → (∀ p ∈ ss, p.size < 18446744073709551616) → cutsB ss.length s = some (ss, mkB t) := by
  intro ss
  induction ss with
  | nil => intro s t h _; simp only [partsL, List.nil_append] at h; simp only [List.length_nil, cutsB]; rw [← h, mkB_data]
  | cons p r ih =>
    intro s t h hp
    have hc := cutB_join s p (partsL r ++ t) (by rw [h, partsL]; simp [List.append_assoc]) (hp p (by simp))
    have hk := ih (mkB (partsL r ++ t)) t (by rw [mkB_toList]) (fun q hq => hp q (by simp [hq]))
    simp only [List.length_cons, cutsB, hc, hk]

theorem joinB_list (ss : List ByteArray) : (joinB ss).data.toList = (numB ss.length).data.toList ++ partsL ss := rfl

theorem split_join (ss : List ByteArray) (hl : ss.length < 18446744073709551616) (hp : ∀ p ∈ ss, p.size < 18446744073709551616) : splitB (joinB ss) = some ss := by
  have hs : (joinB ss).size = 8 + (partsL ss).length := by rw [← ba_len, joinB_list, List.length_append, numB_len]
  unfold splitB
  rw [if_neg (by omega), len8_of (joinB_list ss) hl]
  have : ((joinB ss).extract 8 (joinB ss).size).data.toList = partsL ss ++ [] := by
    rw [Lib.extract_data, joinB_list, List.drop_left' (by rw [numB_len]), List.take_of_length_le (by omega), List.append_nil]
  rw [cutsB_join ss _ [] this hp]
  rfl

theorem cutB_parts {s p r : ByteArray} (h : cutB s = some (p, r)) : s.data.toList = (numB p.size).data.toList ++ p.data.toList ++ r.data.toList := by
  unfold cutB at h
  split at h
  · cases h
  · split at h
    · cases h
    · cases h
      have hps : (s.extract 8 (8 + len8 s)).size = len8 s := by rw [ByteArray.size_extract]; omega
      rw [hps]
      unfold len8
      rw [num_be _ (by rw [List.length_take, ba_len]; omega), Lib.extract_data, Lib.extract_data]
      have e : be (s.data.toList.take 8) = len8 s := rfl
      rw [e]
      conv => lhs; rw [← List.take_append_drop 8 s.data.toList, ← List.take_append_drop (len8 s) (s.data.toList.drop 8), List.drop_drop]
      rw [show 8 + len8 s - 8 = len8 s by omega, List.append_assoc, List.take_of_length_le (l := List.drop (8 + len8 s) s.data.toList) (by rw [List.length_drop, ba_len]; omega)]

theorem cutsB_parts : ∀ (n : Nat) (s : ByteArray) (ps : List ByteArray) (t : ByteArray), cutsB n s = some (ps, t) → ps.length = n ∧ s.data.toList = partsL ps ++ t.data.toList := by
  intro n
  induction n with
  | zero => intro s ps t h; simp only [cutsB, Option.some.injEq, Prod.mk.injEq] at h; obtain ⟨rfl, rfl⟩ := h; exact ⟨rfl, rfl⟩
  | succ n ih =>
    intro s ps t h
    cases hc : cutB s with
    | none => simp [cutsB, hc] at h
    | some pr =>
      obtain ⟨p, r⟩ := pr
      cases hk : cutsB n r with
      | none => simp [cutsB, hc, hk] at h
      | some x =>
        obtain ⟨qs, u⟩ := x
        simp only [cutsB, hc, hk, Option.some.injEq, Prod.mk.injEq] at h
        obtain ⟨rfl, rfl⟩ := h
        obtain ⟨h1, h2⟩ := ih r qs u hk
        refine ⟨by simp [h1], ?_⟩
        rw [cutB_parts hc, h2, partsL]
        simp [List.append_assoc]

theorem join_split (s : ByteArray) (ps : List ByteArray) (h : splitB s = some ps) : joinB ps = s := by
  unfold splitB at h
  split at h
  · cases h
  · cases hc : cutsB (len8 s) (s.extract 8 s.size) with
    | none => rw [hc] at h; cases h
    | some x =>
      obtain ⟨qs, t⟩ := x
      rw [hc] at h
      unfold ended at h
      split at h
      · cases h
      · rename_i he
        simp only [Option.some.injEq, Prod.mk.injEq] at he
        obtain ⟨rfl, rfl⟩ := he
        split at h
        · rename_i ht
          cases h
          obtain ⟨h1, h2⟩ := cutsB_parts _ _ _ _ hc
          apply ba_ext
          have ht0 : t.data.toList = [] := List.eq_nil_of_length_eq_zero (by rw [ba_len]; exact ht)
          rw [ht0, List.append_nil, Lib.extract_data, List.take_of_length_le (by rw [List.length_drop, ba_len]; omega)] at h2
          rw [joinB_list, h1, ← h2]
          unfold len8
          rw [num_be _ (by rw [List.length_take, ba_len]; omega), List.take_append_drop]
        · cases h

theorem join_one (a b : List ByteArray) (ha : a.length < 18446744073709551616) (hb : b.length < 18446744073709551616) (hpa : ∀ p ∈ a, p.size < 18446744073709551616) (hpb : ∀ p ∈ b, p.size < 18446744073709551616) : joinB a = joinB b ↔ a = b := by
  constructor
  · intro h
    have h1 := split_join a ha hpa
    rw [h, split_join b hb hpb] at h1
    exact (Option.some.inj h1).symm
  · rintro rfl; rfl

theorem len8_more (s u : ByteArray) (h : 8 ≤ s.size) : len8 (s ++ u) = len8 s := by
  unfold len8
  rw [ba_append, List.take_append_of_le_length (by rw [ba_len]; omega)]

theorem cutB_more {s p r : ByteArray} (u : ByteArray) (h : cutB s = some (p, r)) : cutB (s ++ u) = some (p, r ++ u) := by
  have h1 := cutB_parts h
  have hz := cutB_size h
  have hp : p.size < 18446744073709551616 := by
    unfold cutB at h
    split at h
    · cases h
    · split at h
      · cases h
      · cases h
        rw [ByteArray.size_extract]
        have := be_take_lt s 8
        unfold len8
        omega
  have := cutB_join (s ++ u) p (r.data.toList ++ u.data.toList) (by rw [ba_append, h1]; simp [List.append_assoc]) hp
  rw [this, ← ba_append, mkB_data]

theorem cutsB_more : ∀ (n : Nat) (s : ByteArray) (ps : List ByteArray) (t u : ByteArray), cutsB n s = some (ps, t) → cutsB n (s ++ u) = some (ps, t ++ u) := by
  intro n
  induction n with
  | zero => intro s ps t u h; simp only [cutsB, Option.some.injEq, Prod.mk.injEq] at h ⊢; obtain ⟨rfl, rfl⟩ := h; exact ⟨rfl, rfl⟩
  | succ n ih =>
    intro s ps t u h
    cases hc : cutB s with
    | none => simp [cutsB, hc] at h
    | some pr =>
      obtain ⟨p, r⟩ := pr
      cases hk : cutsB n r with
      | none => simp [cutsB, hc, hk] at h
      | some x =>
        obtain ⟨qs, v⟩ := x
        simp only [cutsB, hc, hk, Option.some.injEq, Prod.mk.injEq] at h
        obtain ⟨rfl, rfl⟩ := h
        simp only [cutsB, cutB_more u hc, ih r qs v u hk]

/-- Behind a text that is split nothing more may stand. -/
theorem split_more (s u : ByteArray) (ps : List ByteArray) (h : splitB s = some ps) (hu : u.size ≠ 0) : splitB (s ++ u) = none := by
  have hs := h
  unfold splitB at h
  split at h
  · cases h
  · rename_i h8
    cases hc : cutsB (len8 s) (s.extract 8 s.size) with
    | none => rw [hc] at h; cases h
    | some x =>
      obtain ⟨qs, t⟩ := x
      have hm := cutsB_more _ _ _ _ u hc
      have he : s.extract 8 s.size ++ u = (s ++ u).extract 8 (s ++ u).size := by
        apply ba_ext
        rw [ba_append, Lib.extract_data, Lib.extract_data, ba_append, List.drop_append_of_le_length (by rw [ba_len]; omega), List.take_of_length_le (by rw [List.length_drop, ba_len]; omega), List.take_of_length_le (by rw [List.length_append, List.length_drop, ba_len, ba_len, ByteArray.size_append]; omega)]
      rw [he] at hm
      unfold splitB
      rw [if_neg (by rw [ByteArray.size_append]; omega), len8_more s u (by omega), hm]
      exact if_neg (by rw [ByteArray.size_append]; omega)

theorem split_less (s : ByteArray) (ps : List ByteArray) (h : splitB s = some ps) (h0 : 0 < s.size) : splitB (s.extract 0 (s.size - 1)) = none := by
  cases hc : splitB (s.extract 0 (s.size - 1)) with
  | none => rfl
  | some qs =>
    have := split_more _ (s.extract (s.size - 1) s.size) qs hc (by rw [ByteArray.size_extract]; omega)
    have e : s.extract 0 (s.size - 1) ++ s.extract (s.size - 1) s.size = s := by
      apply ba_ext
      rw [ba_append, Lib.extract_data, Lib.extract_data, List.drop_zero, Nat.sub_zero, List.take_of_length_le (l := List.drop _ _) (by rw [List.length_drop, ba_len]; omega), List.take_append_drop]
    rw [e, h] at this
    cases this
end Go.Proofs.YtdhaanaenklleaaDoor.S
