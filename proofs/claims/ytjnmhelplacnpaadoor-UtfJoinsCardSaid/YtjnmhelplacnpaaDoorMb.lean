/- Plain: a sign's bytes are read as the sign. -/
import Derived.Test.YtjnmhelplacnpaaDoorMa
namespace Go.Proofs.YtjnmhelplacnpaaDoor

theorem byte_at {s : ByteArray} {p c : Nat} {rest : List UInt8} (h : s.data.toList.drop p = (encB c).data.toList ++ rest) (hc : c ≤ 1114111) (j : Nat) (hj : j < (encN c).length) : (s.get! (p + j)).toNat = (encN c).getD j 0 := by
  have hl : (encB c).data.toList.length = (encN c).length := by rw [← enc_nat c hc, List.length_map]
  have e1 : s.data.toList[p + j]? = (encB c).data.toList[j]? := by
    rw [← List.getElem?_drop, h, List.getElem?_append_left (by omega)]
  rw [get_list, e1, ← enc_nat c hc, List.getD, List.getElem?_map, List.getElem?_eq_getElem (by omega)]
  rfl

theorem enc_size (c : Nat) (hc : c ≤ 1114111) : (encB c).size = (encN c).length := by
  rw [Lib.size_eq, ← enc_nat c hc, List.length_map]

theorem encN_len (c : Nat) : (encN c).length = if c < 128 then 1 else if c < 2048 then 2 else if c < 65536 then 3 else 4 := by
  unfold encN
  repeat' split
  all_goals rfl

theorem dec_enc {s : ByteArray} {p c : Nat} {rest : List UInt8} (h : s.data.toList.drop p = (encB c).data.toList ++ rest) (hs : isSign c = true) : dec s p = (c, (encB c).size) := by
  have hc := sign_le hs
  have hsg := (sign_iff c).1 hs
  have hsz := enc_size c hc
  have hlen : s.size - p = (encN c).length + rest.length := by
    rw [Lib.size_eq, ← List.length_drop, h, List.length_append, ← hsz, Lib.size_eq]
  have hb := byte_at h hc
  rw [hsz]
  unfold dec
  rcases (by omega : c < 128 ∨ (128 ≤ c ∧ c < 2048) ∨ (2048 ≤ c ∧ c < 65536) ∨ 65536 ≤ c) with h1 | ⟨h1, h2⟩ | ⟨h1, h2⟩ | h1
  · have hN : encN c = [c] := by unfold encN; rw [if_pos h1]
    rw [hN] at hb hlen ⊢
    have b0 := hb 0 (by simp)
    simp only [Nat.add_zero, List.getD_cons_zero] at b0
    rw [b0]
    unfold Lib.decodeN
    rw [if_pos h1]; rfl
  · have hN : encN c = [192 + c / 64, 128 + c % 64] := by unfold encN; rw [if_neg (by omega), if_pos h2]
    rw [hN] at hb hlen ⊢
    have b0 := hb 0 (by simp)
    have b1 := hb 1 (by simp)
    simp only [Nat.add_zero, List.getD_cons_zero, List.getD_cons_succ, List.length_cons, List.length_nil] at b0 b1 hlen
    rw [b0, b1]
    unfold Lib.decodeN
    rw [if_neg (by omega), if_pos (by omega), if_pos (by omega)]
    exact Prod.ext (by simp only; omega) rfl
  · have hN : encN c = [224 + c / 4096, 128 + c / 64 % 64, 128 + c % 64] := by unfold encN; rw [if_neg (by omega), if_neg (by omega), if_pos h2]
    rw [hN] at hb hlen ⊢
    have b0 := hb 0 (by simp)
    have b1 := hb 1 (by simp)
    have b2 := hb 2 (by simp)
    simp only [Nat.add_zero, List.getD_cons_zero, List.getD_cons_succ, List.length_cons, List.length_nil] at b0 b1 b2 hlen
    rw [b0, b1, b2]
    unfold Lib.decodeN
    rw [if_neg (by omega), if_neg (by omega), if_pos (by omega), if_pos (by omega)]
    exact Prod.ext (by simp only; omega) rfl
  · have hN : encN c = [240 + c / 262144, 128 + c / 4096 % 64, 128 + c / 64 % 64, 128 + c % 64] := by unfold encN; rw [if_neg (by omega), if_neg (by omega), if_neg (by omega)]
    rw [hN] at hb hlen ⊢
    have b0 := hb 0 (by simp)
    have b1 := hb 1 (by simp)
    have b2 := hb 2 (by simp)
    have b3 := hb 3 (by simp)
    simp only [Nat.add_zero, List.getD_cons_zero, List.getD_cons_succ, List.length_cons, List.length_nil] at b0 b1 b2 b3 hlen
    rw [b0, b1, b2, b3]
    unfold Lib.decodeN
    rw [if_neg (by omega), if_neg (by omega), if_neg (by omega), if_pos (by omega), if_pos (by omega)]
    exact Prod.ext (by simp only; omega) rfl

theorem rune_enc {s : ByteArray} {p c : Nat} {rest : List UInt8} (h : s.data.toList.drop p = (encB c).data.toList ++ rest) (hs : isSign c = true) (hm : c = 65279 → p = 0) : runeAt s p = ((c : Int), (encB c).size) := by
  unfold runeAt
  rw [dec_enc h hs]
  have hsg := (sign_iff c).1 hs
  have hsz := enc_size c (sign_le hs)
  rw [encN_len] at hsz
  unfold runeV
  simp only
  rw [if_neg (by
    rintro (h0 | ⟨h1, h2⟩)
    · omega
    · rw [hsz, h1] at h2; simp at h2), if_neg (by rintro ⟨h1, h2⟩; have := hm h1; omega)]

/-- With its last byte less it is none. -/
theorem rune_cut (c : Nat) (hs : isSign c = true) (h1 : 1 < (encB c).size) : runeAt ((encB c).extract 0 ((encB c).size - 1)) 0 = (-1, 1) := by
  have hc := sign_le hs
  have hsg := (sign_iff c).1 hs
  have hsz := enc_size c hc
  have hd : ((encB c).extract 0 ((encB c).size - 1)).data.toList = (encB c).data.toList.take ((encB c).size - 1) := by rw [Lib.extract_data, List.drop_zero, Nat.sub_zero]
  have hg : ∀ j, j < (encB c).size - 1 → (((encB c).extract 0 ((encB c).size - 1)).get! j).toNat = (encN c).getD j 0 := fun j hj => by
    rw [get_list, hd, List.getElem?_take_of_lt hj, ← enc_nat c hc, List.getD, List.getElem?_map, List.getElem?_eq_getElem (by rw [← Lib.size_eq]; omega)]
    rfl
  have hz : ((encB c).extract 0 ((encB c).size - 1)).size = (encB c).size - 1 := by rw [ByteArray.size_extract]; omega
  unfold runeAt
  have key : dec ((encB c).extract 0 ((encB c).size - 1)) 0 = (65533, 1) := by
    unfold dec
    rw [hz]
    generalize (encB c).extract 0 ((encB c).size - 1) = t at *
    rw [hsz] at h1 hg ⊢
    have hn := encN_len c
    rcases (by omega : c < 128 ∨ (128 ≤ c ∧ c < 2048) ∨ (2048 ≤ c ∧ c < 65536) ∨ 65536 ≤ c) with h1' | ⟨h1', h2⟩ | ⟨h1', h2⟩ | h1'
    · rw [hn, if_pos h1'] at h1; omega
    · have hN : encN c = [192 + c / 64, 128 + c % 64] := by unfold encN; rw [if_neg (by omega), if_pos h2]
      rw [hN] at hg ⊢
      have b0 := hg 0 (by simp)
      simp only [List.getD_cons_zero, List.length_cons, List.length_nil] at b0 ⊢
      rw [b0]
      unfold Lib.decodeN
      rw [if_neg (by omega), if_neg (by omega), if_neg (by omega), if_neg (by omega)]
    · have hN : encN c = [224 + c / 4096, 128 + c / 64 % 64, 128 + c % 64] := by unfold encN; rw [if_neg (by omega), if_neg (by omega), if_pos h2]
      rw [hN] at hg ⊢
      have b0 := hg 0 (by simp)
      simp only [List.getD_cons_zero, List.length_cons, List.length_nil] at b0 ⊢
      rw [b0]
      unfold Lib.decodeN
      rw [if_neg (by omega), if_neg (by omega), if_neg (by omega), if_neg (by omega)]
    · have hN : encN c = [240 + c / 262144, 128 + c / 4096 % 64, 128 + c / 64 % 64, 128 + c % 64] := by unfold encN; rw [if_neg (by omega), if_neg (by omega), if_neg (by omega)]
      rw [hN] at hg ⊢
      have b0 := hg 0 (by simp)
      simp only [List.getD_cons_zero, List.length_cons, List.length_nil] at b0 ⊢
      rw [b0]
      unfold Lib.decodeN
      rw [if_neg (by omega), if_neg (by omega), if_neg (by omega), if_neg (by omega)]
  rw [key]
  exact if_pos (.inr ⟨rfl, rfl⟩)
end Go.Proofs.YtjnmhelplacnpaaDoor
