/- Walks: the document's Join; Plain: what is joined is split, and the other way round; Walks: a text is split; Walks: the document's Split. -/
import Derived.Test.YtbdlmdmbaajcmaaC1
import Derived.Laws.MakeOwn
namespace Go.Proofs.Ytbdlmdmbaajcmaa.C
open Go.ChangeShapes Go.WideShapes Go.ChangeAt Go.RowKit

def mkB (l : List UInt8) : ByteArray := ⟨l.toArray⟩
theorem mkB_append (a : List UInt8) (s : ByteArray) : mkB a ++ s = mkB (a ++ s.data.toList) := by
  apply ByteArray.ext
  apply Array.toList_inj.1
  simp [mkB]
theorem mkB_data (s : ByteArray) : mkB s.data.toList = s := by cases s; rfl
theorem mkB_size (a : List UInt8) : (mkB a).size = a.length := by simp [mkB, ByteArray.size]

set_option maxRecDepth 100000 in
set_option maxHeartbeats 400000 in
theorem refJoin_any (v : Value) (ss : List ByteArray) (w : World) (hv : Strs w v ss) (hz : total ss ≤ 1099511627776) (hl : ss.length ≤ 1099511627776) :
    Calls Try.prog 49 #[v] w fun e w' => e = .returned (.string (joinB ss)) ∧ Below w.heap.size w w' := by
  rcases hv with ⟨⟨pz, cz, rfl⟩, rfl⟩ | ⟨b, off, cap, rfl, hcap, hmax, hb, hcell⟩
  · go_enter Try.func49, Try.ntmps49
    go_wp2_with fail
    refine (refNum_any _ _).mono ?_
    rintro e w1 ⟨rfl, hB1⟩
    go_wp2_with fail
    refine wp_loop_rounds 1 ?_
    rw [rounds_succ]
    go_wp2_with fail
    go_ret
    exact ⟨by simp only [joinB, joinL, partsL, List.append_nil]; rfl, hB1⟩
  · obtain ⟨len, hlen⟩ : ∃ len, len = ss.length := ⟨_, rfl⟩
    rw [← hlen] at hcap hl hcell ⊢
    have Hlen := Lib.hid hlen
    have Hz := Lib.hid hz
    unfold maxLen at hmax
    clear hlen hz
    go_enter Try.func49, Try.ntmps49
    go_wp2_with fail
    refine (refNum_any _ _).mono ?_
    rintro e w1 ⟨rfl, hB1⟩
    rw [len_mod _ (by omega)]
    go_wp2_with fail
    go_loopw [3, 5, 11] (fun s _ i wr => ∃ k : Nat, k ≤ len ∧ i = .int .i64 k ∧ s = .string (mkB ((numB len).data.toList ++ partsL (ss.take k))) ∧ Below w.heap.size w wr) (fun _ _ i _ => len - (intOf i).toNat)
    case atStart => exact ⟨0, by omega, rfl, by simp [partsL, mkB_data], hB1⟩
    case round =>
      obtain ⟨k, hk, rfl, rfl, hB⟩ := hrel
      clear hB1
      by_cases hlt : k < len
      · have hc : wr.cell? ⟨b, off + k, none⟩ = some (.string (ss.getD k ByteArray.empty)) := by rw [hB.cell (p := ⟨b, off + k, none⟩) hb]; exact hcell k hlt
        have hpt := partsL_take ss k (by have := Hlen.out; omega)
        have htl : total (ss.take (k + 1)) ≤ 1099511627776 := by
          have := total_mono ss (k + 1) ss.length (by have := Hlen.out; omega) (Nat.le_refl _)
          rw [List.take_length] at this; have := Hz.out; omega
        rw [total_take ss k (by have := Hlen.out; omega)] at htl
        have hpl := partsL_len (ss.take k)
        rw [List.length_take] at hpl
        obtain ⟨s, hs⟩ : ∃ s, s = ss.getD k ByteArray.empty := ⟨_, rfl⟩
        rw [← hs] at hc hpt htl
        obtain ⟨t, ht⟩ : ∃ t, t = mkB ((numB len).data.toList ++ partsL (ss.take k)) := ⟨_, rfl⟩
        have hts : t.size ≤ 17592186044416 := by rw [ht, mkB_size, List.length_append, numB_len, hpl]; omega
        rw [← ht]
        have Hpt := Lib.hid hpt
        have Ht := Lib.hid ht
        have hsz : s.size ≤ 1099511627776 := by omega
        clear hs hpt hpl hcell htl ht
        go_wp2_with fail
        refine (refNum_any _ _).mono ?_
        rintro e w4 ⟨rfl, hB4⟩
        rw [len_mod _ (by omega)]
        have hB04 := hB.trans (hB4.mono hB.size)
        have hns : (numB s.size).size ≤ 8 := by rw [numB_size]; omega
        obtain ⟨n8, hn8⟩ : ∃ n8, n8 = numB s.size := ⟨_, rfl⟩
        rw [← hn8] at hns ⊢
        have Hn8 := Lib.hid hn8
        have hns2 : (t ++ n8).size ≤ 17592186044424 := by rw [ByteArray.size_append]; omega
        clear hB4 hB hc hn8
        go_wp2_with fail
        refine ⟨⟨k + 1, by omega, by go_num, ?_, hB04⟩, by simp [intOf]; omega⟩
        rw [Hpt.out, Ht.out, Hn8.out, mkB_append, mkB_append]
        simp only [List.append_assoc]
      · obtain rfl : k = len := by omega
        clear hcell
        have htk : ss.take k = ss := by rw [Hlen.out, List.take_length]
        rw [htk]
        clear htk
        go_wp2_with fail
        go_ret
        have ej : joinB ss = mkB ((numB k).data.toList ++ partsL ss) := by rw [joinB, joinL, ← Hlen.out]; rfl
        exact ⟨by rw [ej]; rfl, hB⟩
end Go.Proofs.Ytbdlmdmbaajcmaa.C
namespace Go.Proofs.Ytbdlmdmbaajcmaa.C

theorem ba_ext {a b : ByteArray} (h : a.data.toList = b.data.toList) : a = b := ByteArray.ext (Array.toList_inj.1 h)
theorem ba_append (a b : ByteArray) : (a ++ b).data.toList = a.data.toList ++ b.data.toList := by simp only [ByteArray.data_append, Array.toList_append]
theorem ba_len (a : ByteArray) : a.data.toList.length = a.size := (Lib.size_eq a).symm
theorem mkB_toList (l : List UInt8) : (mkB l).data.toList = l := rfl

theorem be8 (a b c d e f g h : UInt8) : be [a, b, c, d, e, f, g, h] = 72057594037927936 * a.toNat + 281474976710656 * b.toNat + 1099511627776 * c.toNat + 4294967296 * d.toNat + 16777216 * e.toNat + 65536 * f.toNat + 256 * g.toNat + h.toNat := by
  simp [be]; omega

def dg (x j : Nat) : UInt8 := UInt8.ofNat (x / 256 ^ j % 256)
theorem dg_nat (x j : Nat) : (dg x j).toNat = x / 256 ^ j % 256 := by simp [dg]
theorem numB_list (x : Nat) : (numB x).data.toList = [dg x 7, dg x 6, dg x 5, dg x 4, dg x 3, dg x 2, dg x 1, dg x 0] := rfl

theorem be_num (x : Nat) (h : x < 18446744073709551616) : be (numB x).data.toList = x := by
  rw [numB_list, be8]
  simp only [dg_nat, Nat.reducePow, Nat.pow_zero, Nat.div_one]
  omega

theorem num_be (l : List UInt8) (h : l.length = 8) : (numB (be l)).data.toList = l := by
  match l, h with
  | [a, b, c, d, e, f, g, i], _ =>
    have ha := a.toNat_lt; have hb := b.toNat_lt; have hc := c.toNat_lt; have hd := d.toNat_lt
    have he := e.toNat_lt; have hf := f.toNat_lt; have hg := g.toNat_lt; have hi := i.toNat_lt
    have key : ∀ (u : UInt8) (j : Nat), (dg (be [a, b, c, d, e, f, g, i]) j).toNat = u.toNat → dg (be [a, b, c, d, e, f, g, i]) j = u := fun u j h => UInt8.toNat_inj.1 h
    rw [numB_list, key a 7, key b 6, key c 5, key d 4, key e 3, key f 2, key g 1, key i 0] <;>
      (rw [dg_nat, be8]; simp only [Nat.reducePow, Nat.pow_zero, Nat.div_one]; omega)

theorem len8_of {s : ByteArray} {x : Nat} {t : List UInt8} (h : s.data.toList = (numB x).data.toList ++ t) (hx : x < 18446744073709551616) : len8 s = x := by
  unfold len8
  rw [h, List.take_append_of_le_length (by rw [numB_len]; omega), List.take_of_length_le (by rw [numB_len]; omega), be_num x hx]

theorem cutB_join (s p : ByteArray) (t : List UInt8) (h : s.data.toList = (numB p.size).data.toList ++ p.data.toList ++ t) (hp : p.size < 18446744073709551616) : cutB s = some (p, mkB t) := by
  have hl : len8 s = p.size := len8_of (by rw [h, List.append_assoc]) hp
  have hs : s.size = 8 + p.size + t.length := by rw [← ba_len, h, List.length_append, List.length_append, numB_len, ba_len]
  unfold cutB
  rw [if_neg (by omega), if_neg (by omega), hl]
  have e1 : s.extract 8 (8 + p.size) = p := ba_ext (by
    rw [Lib.extract_data, h, List.append_assoc, List.drop_append_of_le_length (by rw [numB_len]; omega), List.drop_of_length_le (by rw [numB_len]; omega), List.nil_append,
      List.take_append_of_le_length (by rw [ba_len]; omega), List.take_of_length_le (by rw [ba_len]; omega)])
  have e2 : s.extract (8 + p.size) s.size = mkB t := ba_ext (by
    rw [Lib.extract_data, h, mkB_toList, List.drop_left' (by rw [List.length_append, numB_len, ba_len]), List.take_of_length_le (by omega)])
  rw [e1, e2]

theorem cutsB_join : ∀ (ss : List ByteArray) (s : ByteArray) (t : List UInt8), s.data.toList = partsL ss ++ t → (∀ p ∈ ss, p.size < 18446744073709551616) → cutsB ss.length s = some (ss, mkB t) := by
  intro ss
  induction ss with
  | nil => intro s t h _; simp only [partsL, List.nil_append] at h; simp only [List.length_nil, cutsB]; rw [← h, mkB_data]
  | cons p r ih =>
    intro s t h hp
    have hc := cutB_join s p (partsL r ++ t) (by rw [h, partsL]; simp [List.append_assoc]) (hp p (by simp))
    have hk := ih (mkB (partsL r ++ t)) t (by rw [mkB_toList]) (fun q hq => hp q (by simp [hq]))
    simp only [List.length_cons, cutsB, hc, hk]

theorem joinB_list (ss : List ByteArray) : (joinB ss).data.toList = (numB ss.length).data.toList ++ partsL ss := rfl

theorem split_join (ss : List ByteArray) (hl : ss.length < 18446744073709551616) (hp : ∀ p ∈ ss, p.size < 18446744073709551616) : splitB (joinB ss) = some ss := by
  have hs : (joinB ss).size = 8 + (partsL ss).length := by rw [← ba_len, joinB_list, List.length_append, numB_len]
  unfold splitB
  rw [if_neg (by omega), len8_of (joinB_list ss) hl]
  have : ((joinB ss).extract 8 (joinB ss).size).data.toList = partsL ss ++ [] := by
    rw [Lib.extract_data, joinB_list, List.drop_left' (by rw [numB_len]), List.take_of_length_le (by omega), List.append_nil]
  rw [cutsB_join ss _ [] this hp]
  rfl

theorem cutB_parts {s p r : ByteArray} (h : cutB s = some (p, r)) : s.data.toList = (numB p.size).data.toList ++ p.data.toList ++ r.data.toList := by
  unfold cutB at h
  split at h
  · cases h
  · split at h
    · cases h
    · cases h
      have hps : (s.extract 8 (8 + len8 s)).size = len8 s := by rw [ByteArray.size_extract]; omega
      rw [hps]
      unfold len8
      rw [num_be _ (by rw [List.length_take, ba_len]; omega), Lib.extract_data, Lib.extract_data]
      have e : be (s.data.toList.take 8) = len8 s := rfl
      rw [e]
      conv => lhs; rw [← List.take_append_drop 8 s.data.toList, ← List.take_append_drop (len8 s) (s.data.toList.drop 8), List.drop_drop]
      rw [show 8 + len8 s - 8 = len8 s by omega, List.append_assoc, List.take_of_length_le (l := List.drop (8 + len8 s) s.data.toList) (by rw [List.length_drop, ba_len]; omega)]

theorem cutsB_parts : ∀ (n : Nat) (s : ByteArray) (ps : List ByteArray) (t : ByteArray), cutsB n s = some (ps, t) → ps.length = n ∧ s.data.toList = partsL ps ++ t.data.toList := by
  intro n
  induction n with
  | zero => intro s ps t h; simp only [cutsB, Option.some.injEq, Prod.mk.injEq] at h; obtain ⟨rfl, rfl⟩ := h; exact ⟨rfl, rfl⟩
  | succ n ih =>
    intro s ps t h
    cases hc : cutB s with
    | none => simp [cutsB, hc] at h
    | some pr =>
      obtain ⟨p, r⟩ := pr
      cases hk : cutsB n r with
      | none => simp [cutsB, hc, hk] at h
      | some x =>
        obtain ⟨qs, u⟩ := x
        simp only [cutsB, hc, hk, Option.some.injEq, Prod.mk.injEq] at h
        obtain ⟨rfl, rfl⟩ := h
        obtain ⟨h1, h2⟩ := ih r qs u hk
        refine ⟨by simp [h1], ?_⟩
        rw [cutB_parts hc, h2, partsL]
        simp [List.append_assoc]

theorem join_split (s : ByteArray) (ps : List ByteArray) (h : splitB s = some ps) : joinB ps = s := by
  unfold splitB at h
  split at h
  · cases h
  · cases hc : cutsB (len8 s) (s.extract 8 s.size) with
    | none => rw [hc] at h; cases h
    | some x =>
      obtain ⟨qs, t⟩ := x
      rw [hc] at h
      unfold ended at h
      split at h
      · cases h
      · rename_i he
        simp only [Option.some.injEq, Prod.mk.injEq] at he
        obtain ⟨rfl, rfl⟩ := he
        split at h
        · rename_i ht
          cases h
          obtain ⟨h1, h2⟩ := cutsB_parts _ _ _ _ hc
          apply ba_ext
          have ht0 : t.data.toList = [] := List.eq_nil_of_length_eq_zero (by rw [ba_len]; exact ht)
          rw [ht0, List.append_nil, Lib.extract_data, List.take_of_length_le (by rw [List.length_drop, ba_len]; omega)] at h2
          rw [joinB_list, h1, ← h2]
          unfold len8
          rw [num_be _ (by rw [List.length_take, ba_len]; omega), List.take_append_drop]
        · cases h

theorem join_one (a b : List ByteArray) (ha : a.length < 18446744073709551616) (hb : b.length < 18446744073709551616) (hpa : ∀ p ∈ a, p.size < 18446744073709551616) (hpb : ∀ p ∈ b, p.size < 18446744073709551616) : joinB a = joinB b ↔ a = b := by
  constructor
  · intro h
    have h1 := split_join a ha hpa
    rw [h, split_join b hb hpb] at h1
    exact (Option.some.inj h1).symm
  · rintro rfl; rfl

theorem len8_more (s u : ByteArray) (h : 8 ≤ s.size) : len8 (s ++ u) = len8 s := by
  unfold len8
  rw [ba_append, List.take_append_of_le_length (by rw [ba_len]; omega)]

theorem cutB_more {s p r : ByteArray} (u : ByteArray) (h : cutB s = some (p, r)) : cutB (s ++ u) = some (p, r ++ u) := by
  have h1 := cutB_parts h
  have hz := cutB_size h
  have hp : p.size < 18446744073709551616 := by
    unfold cutB at h
    split at h
    · cases h
    · split at h
      · cases h
      · cases h
        rw [ByteArray.size_extract]
        have := be_take_lt s 8
        unfold len8
        omega
  have := cutB_join (s ++ u) p (r.data.toList ++ u.data.toList) (by rw [ba_append, h1]; simp [List.append_assoc]) hp
  rw [this, ← ba_append, mkB_data]

theorem cutsB_more : ∀ (n : Nat) (s : ByteArray) (ps : List ByteArray) (t u : ByteArray), cutsB n s = some (ps, t) → cutsB n (s ++ u) = some (ps, t ++ u) := by
  intro n
  induction n with
  | zero => intro s ps t u h; simp only [cutsB, Option.some.injEq, Prod.mk.injEq] at h ⊢; obtain ⟨rfl, rfl⟩ := h; exact ⟨rfl, rfl⟩
  | succ n ih =>
    intro s ps t u h
    cases hc : cutB s with
    | none => simp [cutsB, hc] at h
    | some pr =>
      obtain ⟨p, r⟩ := pr
      cases hk : cutsB n r with
      | none => simp [cutsB, hc, hk] at h
      | some x =>
        obtain ⟨qs, v⟩ := x
        simp only [cutsB, hc, hk, Option.some.injEq, Prod.mk.injEq] at h
        obtain ⟨rfl, rfl⟩ := h
        simp only [cutsB, cutB_more u hc, ih r qs v u hk]

/-- Behind a text that is split nothing more may stand. -/
theorem split_more (s u : ByteArray) (ps : List ByteArray) (h : splitB s = some ps) (hu : u.size ≠ 0) : splitB (s ++ u) = none := by
  have hs := h
  unfold splitB at h
  split at h
  · cases h
  · rename_i h8
    cases hc : cutsB (len8 s) (s.extract 8 s.size) with
    | none => rw [hc] at h; cases h
    | some x =>
      obtain ⟨qs, t⟩ := x
      have hm := cutsB_more _ _ _ _ u hc
      have he : s.extract 8 s.size ++ u = (s ++ u).extract 8 (s ++ u).size := by
        apply ba_ext
        rw [ba_append, Lib.extract_data, Lib.extract_data, ba_append, List.drop_append_of_le_length (by rw [ba_len]; omega), List.take_of_length_le (by rw [List.length_drop, ba_len]; omega), List.take_of_length_le (by rw [List.length_append, List.length_drop, ba_len, ba_len, ByteArray.size_append]; omega)]
      rw [he] at hm
      unfold splitB
      rw [if_neg (by rw [ByteArray.size_append]; omega), len8_more s u (by omega), hm]
      exact if_neg (by rw [ByteArray.size_append]; omega)

theorem split_less (s : ByteArray) (ps : List ByteArray) (h : splitB s = some ps) (h0 : 0 < s.size) : splitB (s.extract 0 (s.size - 1)) = none := by
  cases hc : splitB (s.extract 0 (s.size - 1)) with
  | none => rfl
  | some qs =>
    have := split_more _ (s.extract (s.size - 1) s.size) qs hc (by rw [ByteArray.size_extract]; omega)
    have e : s.extract 0 (s.size - 1) ++ s.extract (s.size - 1) s.size = s := by
      apply ba_ext
      rw [ba_append, Lib.extract_data, Lib.extract_data, List.drop_zero, Nat.sub_zero, List.take_of_length_le (l := List.drop _ _) (by rw [List.length_drop, ba_len]; omega), List.take_append_drop]
    rw [e, h] at this
    cases this
end Go.Proofs.Ytbdlmdmbaajcmaa.C
namespace Go.Proofs.Ytbdlmdmbaajcmaa.C
open Go.ChangeShapes Go.WideShapes Go.ChangeAt Go.RowKit

theorem cutB_no {s : ByteArray} (h : cutB s = none) : s.size < 8 ∨ 8 ≤ s.size ∧ s.size < len8 s + 8 := by
  unfold cutB at h
  split at h
  · exact .inl ‹_›
  · split at h
    · exact .inr ⟨by omega, ‹_›⟩
    · cases h
theorem cutB_yes {s p r : ByteArray} (h : cutB s = some (p, r)) : 8 ≤ s.size ∧ len8 s + 8 ≤ s.size ∧ p = s.extract 8 (8 + len8 s) ∧ r = s.extract (8 + len8 s) s.size := by
  unfold cutB at h
  split at h
  · cases h
  · split at h
    · cases h
    · cases h
      exact ⟨by omega, by omega, rfl, rfl⟩

theorem cut_none (s : ByteArray) (w : World) (hs : s.size ≤ 1099511627776) (h : cutB s = none) :
    Calls Try.prog 78 #[.string s] w fun e w' => e = .returned (.tuple #[.string ⟨#[]⟩, .string ⟨#[]⟩, .bool false]) ∧ w = w' := by
  rcases cutB_no h with h1 | ⟨h1, h2⟩
  · exact cut_short s w h1
  · exact cut_no s w h1 hs h2
theorem cut_some (s p r : ByteArray) (w : World) (hs : s.size ≤ 1099511627776) (h : cutB s = some (p, r)) :
    Calls Try.prog 78 #[.string s] w fun e w' => e = .returned (.tuple #[.string p, .string r, .bool true]) ∧ ∃ k, w' = w.drewN k := by
  obtain ⟨h1, h2, rfl, rfl⟩ := cutB_yes h
  exact cut_yes s w (len8 s) h1 hs rfl h2

theorem ended_left (acc : List ByteArray) {r : ByteArray} (he : ¬ r.size = 0) : ended (some (acc, r)) = none := if_neg he

/-- Split's answer: the parts, in memory of its own, and no error; or none, and ErrForm. -/
def SplitEnd (w : World) (r : Option (List ByteArray)) (e : Ending) (w' : World) : Prop :=
  Below w.heap.size w w' ∧ match r with
  | none => e = .returned (.tuple #[.slice none 0 0, .int .i64 4])
  | some ps => ∃ v, e = .returned (.tuple #[v, .int .i64 0]) ∧ w'.ownsRow w.heap.size 9 1 v ps.length (ps.map Value.string)

set_option maxRecDepth 100000 in
set_option maxHeartbeats 400000 in
theorem split_long (s : ByteArray) (w : World) (h : 1048576 < s.size) (hs : s.size ≤ 9223372036854775807) :
    Calls Try.prog 59 #[.string s] w fun e w' => e = .returned (.tuple #[.slice none 0 0, .int .i64 3]) ∧ w = w' := by
  go_enter Try.func59, Try.ntmps59
  go_wp2_with fail
  go_ret2
  exact ⟨rfl, rfl⟩

set_option maxRecDepth 100000 in
set_option maxHeartbeats 400000 in
theorem split_short (s : ByteArray) (w : World) (h : s.size < 8) :
    Calls Try.prog 59 #[.string s] w (SplitEnd w (splitB s)) := by
  have e : splitB s = none := by unfold splitB; rw [if_pos h]
  rw [e]
  clear e
  go_enter Try.func59, Try.ntmps59
  go_wp2_with fail
  refine (readNum_short s _ h).mono ?_
  rintro e w' ⟨rfl, rfl⟩
  go_wp2_with fail
  go_ret2
  exact ⟨Below.refl _ _, rfl⟩

set_option maxRecDepth 100000 in
set_option maxHeartbeats 400000 in
theorem split_many (s : ByteArray) (w : World) (h : 8 ≤ s.size) (hs : s.size ≤ 1048576) (hn : s.size / 8 < len8 s) :
    Calls Try.prog 59 #[.string s] w (SplitEnd w (splitB s)) := by
  rw [splitB_many hn]
  have hlt : len8 s < 18446744073709551616 := by have := be_take_lt s 8; unfold len8; omega
  have hm : wrap64 (len8 s) < 0 ∨ (s.size : Int) / 8 < wrap64 (len8 s) := by
    by_cases hb : len8 s < 9223372036854775808
    · rw [IntWalk.wrap64_in _ ⟨by omega, by omega⟩]; omega
    · unfold wrap64; omega
  go_enter Try.func59, Try.ntmps59
  go_wp2_with fail
  refine (readNum_long s _ h (by omega)).mono ?_
  rintro e w' ⟨rfl, rfl⟩
  rw [show be (s.data.toList.take 8) = len8 s from rfl]
  clear hn hlt
  generalize wrap64 (len8 s : Int) = n at *
  by_cases h0 : n < 0
  · have h1 : decide (n < 0) = true := by simpa using h0
    clear hm h0
    go_wp2_with fail
    go_ret2
    exact ⟨Below.refl _ _, rfl⟩
  · have h1 : decide (n < 0) = false := by simpa using h0
    have h2 : decide ((s.size : Int) / 8 < n) = true := by simp; omega
    clear hm h0
    go_wp2_with fail
    go_ret2
    exact ⟨Below.refl _ _, rfl⟩

theorem _root_.Go.Proofs.Ytbdlmdmbaajcmaa.Try.info9 : (Try.prog.info? 9).map (fun i => (i.zero, i.size, i.bytes)) = some (some (.string ⟨#[]⟩), 1, 16) := by kernel_rfl

set_option maxRecDepth 100000 in
set_option maxHeartbeats 400000 in
theorem split_few (s : ByteArray) (w : World) (n : Nat) (h : 8 ≤ s.size) (hs : s.size ≤ 1048576) (hn : len8 s = n) (hf : n ≤ s.size / 8) :
    Calls Try.prog 59 #[.string s] w (SplitEnd w (splitB s)) := by
  obtain ⟨i0, hi, hz0, hz1, hz2⟩ := info_parts Try.info9
  have hw : wrap64 (n : Int) = n := IntWalk.wrap64_in _ ⟨by omega, by omega⟩
  have hr := readNum_long s w h (by omega)
  rw [show be (s.data.toList.take 8) = n from hn, hw] at hr
  have Hr := Lib.hid hr
  have Hn := Lib.hid hn
  clear hr hw hn
  go_enter Try.func59, Try.ntmps59
  go_wp2_with fail
  refine Hr.out.mono ?_
  rintro e w' ⟨rfl, rfl⟩
  have h1 : decide ((n : Int) < 0) = false := by simp
  have h2 : decide ((s.size : Int) / 8 < n) = false := by simp; omega
  go_wp2_with (at_make; refine wpList_make_own _ rfl _ _ 49 rfl w.heap.size 9 i0 (.string ⟨#[]⟩) 1 Try.underlying49 hi hz0 hz1 .i64 .i64 _ n rfl rfl (by omega) (by rw [hz2]; omega) (by unfold maxLen; omega) (Nat.le_refl _) ?_; intro w0 hown0 hgrow0)
  have hsp : splitB s = ended (cutsB n (s.extract 8 s.size)) := by
    unfold splitB; rw [if_neg (by omega), Hn.out]
  have Hsp := Lib.hid hsp
  clear hsp h1 h2
  have hrs : (s.extract 8 s.size).size ≤ 1048576 := by rw [ByteArray.size_extract]; omega
  generalize hr0 : s.extract 8 s.size = r0 at *
  clear hr0
  go_loopw [6, 7, 37] (fun v rv i wr => ∃ (j m : Nat) (acc : List ByteArray) (r : ByteArray), j + m = n ∧ i = .int .i64 j ∧ rv = .string r ∧ r.size ≤ 1048576 ∧ Mid n r0 m acc r ∧ wr.ownsRow w.heap.size 9 1 v j (acc.map Value.string) ∧ Below w.heap.size w wr) (fun _ _ i _ => n - (intOf i).toNat)
  case atStart => exact ⟨0, n, [], _, by omega, rfl, rfl, hrs, Mid.start _ _, hown0, (Below.refl _ _).grown hgrow0 (Nat.le_refl _) (fun k h => by cases h)⟩
  case round =>
    obtain ⟨j, m, acc, r, hjm, rfl, rfl, hrz, hmid, hown, hB⟩ := hrel
    have HM := Lib.hid hmid
    have HJ := Lib.hid hjm
    have hBs := hB.size
    clear hmid hown0 hgrow0
    by_cases hlt : j < n
    · have hm1 : m = (m - 1) + 1 := by omega
      have hjm2 : j + m ≤ n := by omega
      clear hjm
      cases hcr : cutB r with
      | none =>
        have hstop : cutsB n r0 = none := by
          have := HM.out
          rw [hm1] at this
          exact this.stop hcr
        have hc := cut_none r wr (by omega) hcr
        have Hst := Lib.hid hstop
        clear hm1 hstop hcr
        go_wp2_with fail
        refine hc.mono ?_
        rintro e w1 ⟨rfl, rfl⟩
        go_wp2_with fail
        go_ret2
        refine ⟨hB, ?_⟩
        rw [Hsp.out, Hst.out]
        rfl
      | some pr =>
        obtain ⟨p, q⟩ := pr
        have hmid2 : Mid n r0 (m - 1) (acc ++ [p]) q := by
          have := HM.out
          rw [hm1] at this
          exact this.step hcr
        have hc := cut_some r p q wr (by omega) hcr
        have hqz := cutB_size hcr
        have HM2 := Lib.hid hmid2
        have hq2 : q.size ≤ 1048576 := by omega
        clear hm1 hmid2 hcr HM hqz
        go_wp2_with fail
        refine hc.mono ?_
        rintro e w1 ⟨rfl, nq, rfl⟩
        clear hc
        have hownd := ownsRow_below hown (below_drewN (Below.refl wr.heap.size wr) nq)
        have hBd := below_drewN hB nq
        clear hown hB
        generalize wr.drewN nq = wd at *
        have hBs2 := hBd.size
        go_wp2_with (at_builtin; go_must (refine wpList_append_own _ rfl (.tmp 47) (.tmp 49) 49 rfl w.heap.size 9 i0 (.string ⟨#[]⟩) 1 16 Try.underlying49 hi hz0 hz1 hz2 rfl (by decide) _ _ _ rfl (hownd.alloc _) ⟨wd.heap.size, 0, none⟩ 1 1 [.string p] rfl rfl (cell_one_new _ _ _) (by intro u hu; simp at hu; subst hu; rfl) (by unfold maxLen; omega) (by omega) (by simp; omega) ?_); intro v1 w2 hown1 hgrow1 _)
        rw [show acc.map Value.string ++ [Value.string p] = (acc ++ [p]).map Value.string by simp] at hown1
        refine ⟨⟨j + 1, m - 1, acc ++ [p], q, by have := HJ.out; omega, by go_num, rfl, hq2, HM2.out, hown1, (hBd.alloc hBs2 _).grown hgrow1 (by simp; omega) (fun k hk => (hownd.lt k hk).1)⟩, by simp [intOf]; omega⟩
    · obtain rfl : j = n := by omega
      have hm0 : m = 0 := by omega
      subst hm0
      have hdone := HM.out.done
      have Hd := Lib.hid hdone
      clear hdone hjm
      by_cases he : r.size = 0
      · have hre : r = ⟨#[]⟩ := by
          cases r with
          | mk d => simp [ByteArray.size] at he; simp [he]
        subst hre
        go_wp2_with fail
        go_ret2
        refine ⟨hB, ?_⟩
        rw [Hsp.out, Hd.out]
        exact ⟨_, rfl, (by have e := hown.1; rw [List.length_map, Nat.mul_one] at e; show World.ownsRow _ _ 9 1 _ acc.length _; rw [e]; exact hown)⟩
      · have hne : ¬ r.toList = [] := by
          rw [Lib.toList_data]; intro e; apply he; simp [ByteArray.size, ← Array.length_toList, e]
        have hne1 : r.toList.isEmpty = false := by simpa using hne
        go_wp2_with fail
        go_ret2
        refine ⟨hB, ?_⟩
        rw [Hsp.out, Hd.out, ended_left acc he]
        rfl

theorem split_any (s : ByteArray) (w : World) (hs : s.size ≤ 1048576) : Calls Try.prog 59 #[.string s] w (SplitEnd w (splitB s)) := by
  by_cases h8 : s.size < 8
  · exact split_short s w h8
  · by_cases hn : s.size / 8 < len8 s
    · exact split_many s w (by omega) hs hn
    · exact split_few s w (len8 s) (by omega) hs rfl (by omega)
end Go.Proofs.Ytbdlmdmbaajcmaa.C
namespace Go.Proofs.Ytbdlmdmbaajcmaa.C
open Go.ChangeShapes Go.WideShapes Go.ChangeAt Go.RowKit

/-- The document's answer: the parts, and true; or some list, and false. -/
def RefEnd (w : World) (r : Option (List ByteArray)) (e : Ending) (w' : World) : Prop :=
  Below w.heap.size w w' ∧ match r with
  | none => ∃ v, e = .returned (.tuple #[v, .bool false])
  | some ps => ∃ v, e = .returned (.tuple #[v, .bool true]) ∧ w'.ownsRow w.heap.size 9 1 v ps.length (ps.map Value.string)

set_option maxRecDepth 100000 in
set_option maxHeartbeats 400000 in
theorem refSplit_short (s : ByteArray) (w : World) (h : s.size < 8) :
    Calls Try.prog 51 #[.string s] w (RefEnd w (splitB s)) := by
  have e : splitB s = none := by unfold splitB; rw [if_pos h]
  rw [e]
  clear e
  go_enter Try.func51, Try.ntmps51
  go_wp2_with fail
  refine (number_short s _ h).mono ?_
  rintro e w' ⟨rfl, rfl⟩
  go_wp2_with fail
  go_ret2
  exact ⟨Below.refl _ _, _, rfl⟩

set_option maxRecDepth 100000 in
set_option maxHeartbeats 400000 in
theorem refSplit_great (s : ByteArray) (w : World) (h : 8 ≤ s.size) (hs : s.size ≤ 1048576) (hn : 1099511627776 < len8 s) :
    Calls Try.prog 51 #[.string s] w (RefEnd w (splitB s)) := by
  rw [splitB_many (by omega)]
  go_enter Try.func51, Try.ntmps51
  go_wp2_with fail
  refine (number_no s _ h (by omega) hn).mono ?_
  rintro e w' ⟨⟨n, rfl⟩, rfl⟩
  go_wp2_with fail
  go_ret2
  exact ⟨Below.refl _ _, _, rfl⟩

set_option maxRecDepth 100000 in
set_option maxHeartbeats 400000 in
theorem refSplit_some (s : ByteArray) (w : World) (n : Nat) (h : 8 ≤ s.size) (hs : s.size ≤ 1048576) (hn : len8 s = n) (hf : n ≤ 1099511627776) :
    Calls Try.prog 51 #[.string s] w (RefEnd w (splitB s)) := by
  obtain ⟨i0, hi, hz0, hz1, hz2⟩ := info_parts Try.info9
  have hr := number_yes s w h (by omega) (by rw [show be (s.data.toList.take 8) = n from hn]; exact hf)
  rw [show be (s.data.toList.take 8) = n from hn] at hr
  have hsp : splitB s = ended (cutsB n (s.extract 8 s.size)) := by
    unfold splitB; rw [if_neg (by omega), hn]
  have Hsp := Lib.hid hsp
  have Hr := Lib.hid hr
  clear hr hn hsp
  go_enter Try.func51, Try.ntmps51
  go_wp2_with fail
  refine Hr.out.mono ?_
  rintro e w' ⟨rfl, rfl⟩
  go_wp2_with fail
  have hrs : (s.extract 8 s.size).size ≤ 1048576 := by rw [ByteArray.size_extract]; omega
  generalize hr0 : s.extract 8 s.size = r0 at *
  clear hr0
  go_loopw [0, 4, 6] (fun rv i v wr => ∃ (j m : Nat) (acc : List ByteArray) (r : ByteArray), j + m = n ∧ i = .int .i64 m ∧ rv = .string r ∧ r.size + 8 * j ≤ 1048576 ∧ Mid n r0 m acc r ∧ wr.ownsRow w.heap.size 9 1 v j (acc.map Value.string) ∧ Below w.heap.size w wr) (fun _ i _ _ => (intOf i).toNat)
  case atStart => exact ⟨0, n, [], _, by omega, rfl, rfl, by omega, Mid.start _ _, World.ownsRow_nil _ _ _ _, Below.refl _ _⟩
  case round =>
    obtain ⟨j, m, acc, r, hjm, rfl, rfl, hrz, hmid, hown, hB⟩ := hrel
    have HM := Lib.hid hmid
    have HJ := Lib.hid hjm
    have hBs := hB.size
    clear hmid
    by_cases hlt : 0 < m
    · have hm1 : m = (m - 1) + 1 := by omega
      have hjm2 : j + m ≤ n := by omega
      clear hjm
      cases hcr : cutB r with
      | none =>
        have hstop : cutsB n r0 = none := by
          have := HM.out
          rw [hm1] at this
          exact this.stop hcr
        have Hst := Lib.hid hstop
        clear hm1 hstop
        rcases cutB_no hcr with h1 | ⟨h1, h2⟩
        · clear hcr
          go_wp2_with fail
          refine (number_short r _ h1).mono ?_
          rintro e w' ⟨rfl, rfl⟩
          go_wp2_with fail
          go_ret2
          refine ⟨hB, ?_⟩
          rw [Hsp.out, Hst.out]
          exact ⟨_, rfl⟩
        · clear hcr
          by_cases h3 : len8 r ≤ 1099511627776
          · go_wp2_with fail
            refine (number_yes r _ h1 (by omega) h3).mono ?_
            rintro e w' ⟨rfl, rfl⟩
            rw [show be (r.data.toList.take 8) = len8 r from rfl]
            generalize len8 r = q at *
            have h4 : decide ((r.size : Int) - 8 < q) = true := by simp; omega
            go_wp2_with fail
            go_ret2
            refine ⟨hB, ?_⟩
            rw [Hsp.out, Hst.out]
            exact ⟨_, rfl⟩
          · go_wp2_with fail
            refine (number_no r _ h1 (by omega) (by unfold len8 at h3; omega)).mono ?_
            rintro e w' ⟨⟨q, rfl⟩, rfl⟩
            go_wp2_with fail
            go_ret2
            refine ⟨hB, ?_⟩
            rw [Hsp.out, Hst.out]
            exact ⟨_, rfl⟩
      | some pr =>
        obtain ⟨p, q⟩ := pr
        have hmid2 : Mid n r0 (m - 1) (acc ++ [p]) q := by
          have := HM.out
          rw [hm1] at this
          exact this.step hcr
        have hqz := cutB_size hcr
        obtain ⟨h1, h2, hp, hq⟩ := cutB_yes hcr
        have HM2 := Lib.hid hmid2
        have hq2 : q.size + 8 * (j + 1) ≤ 1048576 := by omega
        have Hp := Lib.hid hp
        have Hq := Lib.hid hq
        clear hm1 hmid2 hcr HM hqz hp hq
        have hc := number_yes r wr h1 (by omega) (by unfold len8 at h2; omega)
        rw [show be (r.data.toList.take 8) = len8 r from rfl] at hc
        have Hc := Lib.hid hc
        clear hc
        generalize len8 r = l at *
        have h4 : decide ((r.size : Int) - 8 < l) = false := by simp; omega
        have hl8 : l ≤ 1048576 := by omega
        go_wp2_with fail
        refine Hc.out.mono ?_
        rintro e w' ⟨rfl, rfl⟩
        go_wp2_with (at_builtin; go_must (refine wpList_append_own _ rfl (.tmp 36) (.tmp 41) 49 rfl w.heap.size 9 i0 (.string ⟨#[]⟩) 1 16 Try.underlying49 hi hz0 hz1 hz2 rfl (by decide) _ _ _ rfl (hown.alloc _) ⟨wr.heap.size, 0, none⟩ 1 1 [.string (r.extract 8 (8 + l))] rfl rfl (cell_one_new _ _ _) (by intro u hu; simp at hu; subst hu; rfl) (by unfold maxLen; omega) (by omega) (by simp; omega) ?_); intro v1 w2 hown1 hgrow1 _)
        rw [show acc.map Value.string ++ [Value.string (r.extract 8 (8 + l))] = (acc ++ [p]).map Value.string by rw [Hp.out]; simp] at hown1
        refine ⟨⟨j + 1, m - 1, acc ++ [p], q, by have := HJ.out; omega, ?_, by rw [Hq.out], hq2, HM2.out, hown1, (hB.alloc hBs _).grown hgrow1 (by simp; omega) (fun k hk => (hown.lt k hk).1)⟩, by simp [intOf]; omega⟩
        rw [show ((m - 1 : Nat) : Int) = (m : Int) - 1 by omega]
    · have hm0 : m = 0 := by omega
      subst hm0
      have hdone := HM.out.done
      have Hd := Lib.hid hdone
      clear hdone hjm
      by_cases he : r.size = 0
      · have hre : r = ⟨#[]⟩ := by
          cases r with
          | mk d => simp [ByteArray.size] at he; simp [he]
        subst hre
        go_wp2_with fail
        go_ret2
        refine ⟨hB, ?_⟩
        rw [Hsp.out, Hd.out]
        exact ⟨_, rfl, (by have e := hown.1; rw [List.length_map, Nat.mul_one] at e; show World.ownsRow _ _ 9 1 _ acc.length _; rw [e]; exact hown)⟩
      · have hne : ¬ r.toList = [] := by
          rw [Lib.toList_data]; intro e; apply he; simp [ByteArray.size, ← Array.length_toList, e]
        have hne1 : r.toList.isEmpty = false := by simpa using hne
        go_wp2_with fail
        go_ret2
        refine ⟨hB, ?_⟩
        rw [Hsp.out, Hd.out, ended_left acc he]
        exact ⟨_, rfl⟩

theorem refSplit_any (s : ByteArray) (w : World) (hs : s.size ≤ 1048576) : Calls Try.prog 51 #[.string s] w (RefEnd w (splitB s)) := by
  by_cases h8 : s.size < 8
  · exact refSplit_short s w h8
  · by_cases hn : 1099511627776 < len8 s
    · exact refSplit_great s w (by omega) hs hn
    · exact refSplit_some s w (len8 s) (by omega) hs rfl (by omega)
end Go.Proofs.Ytbdlmdmbaajcmaa.C
