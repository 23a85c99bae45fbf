/- Plain: what is joined is split, and the other way round. -/
import Derived.Test.YtdhaanaenklleaaGreatDoorQ4
import Derived.Test.YtdhaanaenklleaaGreatDoorXSJm
namespace Go.Proofs.YtdhaanaenklleaaGreatDoor.S

theorem ba_ext {a b : ByteArray} (h : a.data.toList = b.data.toList) : a = b := ByteArray.ext (Array.toList_inj.1 h)
theorem ba_append (a b : ByteArray) : (a ++ b).data.toList = a.data.toList ++ b.data.toList := by simp only [ByteArray.data_append, Array.toList_append]
theorem ba_len (a : ByteArray) : a.data.toList.length = a.size := (Lib.size_eq a).symm
theorem mkB_toList (l : List UInt8) : (mkB l).data.toList = l := rfl

theorem be8 (a b c d e f g h : UInt8) : be [a, b, c, d, e, f, g, h] = 72057594037927936 * a.toNat + 281474976710656 * b.toNat + 1099511627776 * c.toNat + 4294967296 * d.toNat + 16777216 * e.toNat + 65536 * f.toNat + 256 * g.toNat + h.toNat := by
  simp [be]; omega

def dg (x j : Nat) : UInt8 := UInt8.ofNat (x / 256 ^ j % 256)
theorem dg_nat (x j : Nat) : (dg x j).toNat = x / 256 ^ j % 256 := by simp [dg]
theorem numB_list (x : Nat) : (numB x).data.toList = [dg x 7, dg x 6, dg x 5, dg x 4, dg x 3, dg x 2, dg x 1, dg x 0] := rfl

theorem num_be (l : List UInt8) (h : l.length = 8) : (numB (be l)).data.toList = l := by
  match l, h with
  | [a, b, c, d, e, f, g, i], _ =>
    have ha := a.toNat_lt; have hb := b.toNat_lt; have hc := c.toNat_lt; have hd := d.toNat_lt
    have he := e.toNat_lt; have hf := f.toNat_lt; have hg := g.toNat_lt; have hi := i.toNat_lt
    have key : ∀ (u : UInt8) (j : Nat), (dg (be [a, b, c, d, e, f, g, i]) j).toNat = u.toNat → dg (be [a, b, c, d, e, f, g, i]) j = u := fun u j h => UInt8.toNat_inj.1 h
    rw [numB_list, key a 7, key b 6, key c 5, key d 4, key e 3, key f 2, key g 1, key i 0] <;>
      (rw [dg_nat, be8]; simp only [Nat.reducePow, Nat.pow_zero, Nat.div_one]; omega)

theorem joinB_list (ss : List ByteArray) : (joinB ss).data.toList = (numB ss.length).data.toList ++ partsL ss := rfl

theorem cutB_parts {s p r : ByteArray} (h : cutB s = some (p, r)) : s.data.toList = (numB p.size).data.toList ++ p.data.toList ++ r.data.toList := by
  unfold cutB at h
  split at h
  · cases h
  · split at h
    · cases h
    · cases h
      have hps : (s.extract 8 (8 + len8 s)).size = len8 s := by rw [ByteArray.size_extract]; omega
      rw [hps]
      unfold len8
      rw [num_be _ (by rw [List.length_take, ba_len]; omega), Lib.extract_data, Lib.extract_data]
      have e : be (s.data.toList.take 8) = len8 s := rfl
      rw [e]
      conv => lhs; rw [← List.take_append_drop 8 s.data.toList, ← List.take_append_drop (len8 s) (s.data.toList.drop 8), List.drop_drop]
      rw [show 8 + len8 s - 8 = len8 s by omega, List.append_assoc, List.take_of_length_le (l := List.drop (8 + len8 s) s.data.toList) (by rw [List.length_drop, ba_len]; omega)]

theorem cutsB_parts : ∀ (n : Nat) (s : ByteArray) (ps : List ByteArray) (t : ByteArray), cutsB n s = some (ps, t) → ps.length = n ∧ s.data.toList = partsL ps ++ t.data.toList := by
  intro n
  induction n with
  | zero => intro s ps t h; simp only [cutsB, Option.some.injEq, Prod.mk.injEq] at h; obtain ⟨rfl, rfl⟩ := h; exact ⟨rfl, rfl⟩
  | succ n ih =>
    intro s ps t h
    cases hc : cutB s with
    | none => simp [cutsB, hc] at h
    | some pr =>
      obtain ⟨p, r⟩ := pr
      cases hk : cutsB n r with
      | none => simp [cutsB, hc, hk] at h
      | some x =>
        obtain ⟨qs, u⟩ := x
        simp only [cutsB, hc, hk, Option.some.injEq, Prod.mk.injEq] at h
        obtain ⟨rfl, rfl⟩ := h
        obtain ⟨h1, h2⟩ := ih r qs u hk
        refine ⟨by simp [h1], ?_⟩
        rw [cutB_parts hc, h2, partsL]
        simp [List.append_assoc]

theorem join_split (s : ByteArray) (ps : List ByteArray) (h : splitB s = some ps) : joinB ps = s := by
  unfold splitB at h
  split at h
  · cases h
  · cases hc : cutsB (len8 s) (s.extract 8 s.size) with
    | none => rw [hc] at h; cases h
    | some x =>
      obtain ⟨qs, t⟩ := x
      rw [hc] at h
      unfold ended at h
      split at h
      · cases h
      · rename_i he
        simp only [Option.some.injEq, Prod.mk.injEq] at he
        obtain ⟨rfl, rfl⟩ := he
        split at h
        · rename_i ht
          cases h
          obtain ⟨h1, h2⟩ := cutsB_parts _ _ _ _ hc
          apply ba_ext
          have ht0 : t.data.toList = [] := List.eq_nil_of_length_eq_zero (by rw [ba_len]; exact ht)
          rw [ht0, List.append_nil, Lib.extract_data, List.take_of_length_le (by rw [List.length_drop, ba_len]; omega)] at h2
          rw [joinB_list, h1, ← h2]
          unfold len8
          rw [num_be _ (by rw [List.length_take, ba_len]; omega), List.take_append_drop]
        · cases h

end Go.Proofs.YtdhaanaenklleaaGreatDoor.S
