/- Walks: bytes with what stands behind them. -/
import Derived.Test.YtbenegkhekofmaaDoorMd
import Derived.Lib.AppendStr
import Derived.Laws.AppendOwnNone
import Derived.Laws.IdiomStrings
import Derived.Laws.OwnMore
import Derived.OwnWalk
import Derived.Deep.AppendLies
namespace Go.Proofs.YtbenegkhekofmaaDoor
set_option linter.unusedVariables false
open Go.ChangeShapes Go.WideShapes Go.ChangeAt Go.RowKit

theorem Tryd.info5 : (Tryd.prog.info? 5).map (fun i => (i.zero, i.size, i.bytes)) = some (some (.int .u8 0), 1, 1) := by kernel_rfl
theorem add_none (b off i : Nat) : (⟨b, off, none⟩ : Addr).add i = ⟨b, off + i, none⟩ := by unfold Addr.add; split <;> simp_all
def cellsN (l : List Nat) : List Value := l.map fun (n : Nat) => Value.int .u8 (n : Int)
theorem cellsN_append (a b : List Nat) : cellsN (a ++ b) = cellsN a ++ cellsN b := by simp [cellsN]
theorem cellsN_len (a : List Nat) : (cellsN a).length = a.length := by simp [cellsN]
theorem cellsN_ints (l : List Nat) : (ints .u8 l).toList = cellsN l := by simp [cellsN, ints]
theorem cellsN_get (l : List Nat) (j : Nat) (h : j < l.length) : (cellsN l)[j]? = some (.int .u8 ((l.getD j 0 : Nat) : Int)) := by
  simp [cellsN, List.getElem?_map, List.getElem?_eq_getElem h, List.getD_eq_getElem?_getD]

/-- Bytes that are handed on: none at all, or a row of cells. -/
def BytsN (w : World) (v : Value) (l : List Nat) : Prop :=
  (v = .slice none 0 0 ∧ l = []) ∨ (∃ x cap, v = .slice (some x) 0 cap ∧ l = []) ∨
  ∃ b off cap, v = .slice (some ⟨b, off, none⟩) l.length cap ∧ l.length ≤ cap ∧ cap ≤ maxLen ∧ b < w.heap.size ∧ ∀ i, i < l.length → w.cell? ⟨b, off + i, none⟩ = some (.int .u8 ((l.getD i 0 : Nat) : Int))
theorem BytsN.below {w w' : World} {v : Value} {l : List Nat} (h : BytsN w v l) (hB : Below w.heap.size w w') : BytsN w' v l := by
  rcases h with h | h | ⟨b, off, cap, hv, hl, hc, hb, hcell⟩
  · exact .inl h
  · exact .inr (.inl h)
  · refine .inr (.inr ?_)
    exact ⟨b, off, cap, hv, hl, hc, Nat.lt_of_lt_of_le hb hB.size, fun i hi => by rw [hB.cell (p := ⟨b, off + i, none⟩) hb]; exact hcell i hi⟩
theorem BytsN.ofRow {w : World} {base : Nat} {v : Value} {l : List Nat} (h : w.ownsRow base 5 1 v l.length (cellsN l)) : BytsN w v l := by
  rcases h.2 with ⟨hv, hn⟩ | ⟨g, cap, cur, hv, _, hg, hcap, hmax, hsz, htake⟩
  · exact .inl ⟨hv, List.eq_nil_of_length_eq_zero hn⟩
  · refine .inr (.inr ⟨g, 0, cap, hv, hcap, hmax, lt_of_block hg, fun i hi => ?_⟩)
    rw [block_cell hg]
    have e : (cur.toList.take (l.length * 1))[i]? = (cellsN l)[i]? := by rw [htake]
    rw [List.getElem?_take_of_lt (by omega), cellsN_get _ _ hi] at e
    simpa using e
theorem BytsN.shape {w : World} {v : Value} {l : List Nat} (h : BytsN w v l) : ∃ p cap, v = .slice p l.length cap := by
  rcases h with ⟨rfl, rfl⟩ | ⟨x, cap, rfl, rfl⟩ | ⟨b, off, cap, hv, _⟩
  · exact ⟨none, 0, rfl⟩
  · exact ⟨some x, cap, rfl⟩
  · exact ⟨_, cap, hv⟩

theorem wpList_append_byts {w : World} {ops : Array Oper} {rest : List Oper} {o : Oper} {a : Act} {Q : Exit → Act → World → Prop} (hgd : o.guard = none) (s x : Operand)
    (ho : o.op = .call { callee := .builtin .append, args := #[s, x], argTypes := #[27, 27] }) (base : Nat) (v : Value) (n : Nat) (xs : List Value) (hs : a.eval s = v) (hown : w.ownsRow base 5 1 v n xs)
    (u : Value) (l : List Nat) (hu : BytsN w u l) (hx : a.eval x = u) (hb : n + l.length ≤ 140737488355328) (hbase : base ≤ w.heap.size)
    (h : ∀ v' w', w'.ownsRow base 5 1 v' (n + l.length) (xs ++ cellsN l) → w.grownBy w' v.ownBlock → wpList Tryd.prog ops Q rest (a.put o.dst v') w') : wpList Tryd.prog ops Q (o :: rest) a w := by
  obtain ⟨i0, hi, hz0, hz1, hz2⟩ := info_parts Tryd.info5
  rcases hu with ⟨rfl, rfl⟩ | ⟨ad, cap, rfl, rfl⟩ | ⟨b, off, cap, rfl, hcap, hmax, hb2, hcell⟩
  · exact wpList_append_own_none hgd s x 27 ho base 5 i0 1 Tryd.underlying27 hi v n xs hs hown hx (h v w (by simpa [cellsN] using hown) ⟨rfl, rfl, rfl, Nat.le_refl _, fun _ _ _ => rfl⟩)
  · exact wpList_append_own w hgd s x 27 ho base 5 i0 (.int .u8 0) 1 1 Tryd.underlying27 hi hz0 hz1 hz2 rfl (by decide) v n xs hs hown ad 0 cap [] hx rfl (fun j u h => by simp at h) (fun u h => by simp at h) (by unfold maxLen; simp at hb; omega) (by simp at hb; omega) hbase (fun v' w' h1 h2 _ => h v' w' (by simpa [cellsN] using h1) h2)
  · refine wpList_append_own w hgd s x 27 ho base 5 i0 (.int .u8 0) 1 1 Tryd.underlying27 hi hz0 hz1 hz2 rfl (by decide) v n xs hs hown ⟨b, off, none⟩ l.length cap (cellsN l) hx (by rw [cellsN_len]; omega) ?_ ?_ (by unfold maxLen; omega) (by omega) hbase (fun v' w' h1 h2 _ => h v' w' h1 h2)
    · intro j y hj
      have hjl : j < l.length := by have := (List.getElem?_eq_some_iff.1 hj).1; rwa [cellsN_len] at this
      rw [add_none, hcell j hjl]
      rw [cellsN_get _ _ hjl] at hj
      exact hj
    · intro y hy
      simp [cellsN] at hy
      obtain ⟨b, _, rfl⟩ := hy
      rfl

theorem byts_one (w : World) (x : Nat) : BytsN (w.alloc (.cells #[.int .u8 (x : Int)] 5)) (.slice (some ⟨w.heap.size, 0, none⟩) 1 1) [x] :=
  .inr (.inr ⟨w.heap.size, 0, 1, rfl, by simp, by unfold maxLen; decide, by simp, fun i hi => by
    obtain rfl : i = 0 := by simpa using hi
    rw [World.cell?_alloc_at _ _ _ _ rfl]; rfl⟩)
theorem own_one (w : World) (base x : Nat) (hb : base ≤ w.heap.size) : (w.alloc (.cells #[.int .u8 (x : Int)] 5)).ownsRow base 5 1 (.slice (some ⟨w.heap.size, 0, none⟩) 1 1) 1 (cellsN [x]) :=
  World.ownsRow_lit w #[.int .u8 (x : Int)] 1 hb (by unfold maxLen; decide) rfl
theorem own_val (w : World) (base : Nat) (z : Int) (x : Nat) (hz : z = (x : Int)) (hb : base ≤ w.heap.size) : (w.alloc (.cells #[.int .u8 z] 5)).ownsRow base 5 1 (.slice (some ⟨w.heap.size, 0, none⟩) 1 1) 1 (cellsN [x]) := by
  subst hz; exact own_one w base x hb
theorem own_none (w : World) : (w.alloc (.cells #[] 5)).ownsRow w.heap.size 5 1 (.slice (some ⟨w.heap.size, 0, none⟩) 0 0) 0 [] :=
  World.ownsRow_lit w #[] 0 (Nat.le_refl _) (by unfold maxLen; decide) rfl
def padP (l : List Nat) (k : Nat) : List Nat := l ++ [128] ++ List.replicate k 0
theorem padP_len (l : List Nat) (k : Nat) : (padP l k).length = l.length + 1 + k := by simp [padP]; omega
theorem padP_succ (l : List Nat) (k : Nat) : padP l (k + 1) = padP l k ++ [0] := by rw [padP, List.replicate_succ', ← List.append_assoc]; rfl
def OwnB (base : Nat) (w : World) (v : Value) (l : List Nat) : Prop := w.ownsRow base 5 1 v l.length (cellsN l)
theorem OwnB.byts {base : Nat} {w : World} {v : Value} {l : List Nat} (h : OwnB base w v l) : BytsN w v l := BytsN.ofRow h
theorem own_add {base : Nat} {w : World} {v : Value} {l r : List Nat} {n : Nat} (hn : n = l.length) (h : w.ownsRow base 5 1 v (n + r.length) (cellsN l ++ cellsN r)) : OwnB base w v (l ++ r) := by
  subst hn
  unfold OwnB
  rw [List.length_append, cellsN_append]; exact h
def tailP (n i : Nat) : List Nat := (List.range i).map fun j => cb (n * 8) (8 - i + j)
theorem tailP_len (n i : Nat) : (tailP n i).length = i := by simp [tailP]
theorem tailP_eight (n : Nat) : tailP n 8 = tailL n := by simp [tailP, tailL]
theorem tailP_succ (n i : Nat) (h : i < 8) : tailP n (i + 1) = [cb (n * 8) (7 - i)] ++ tailP n i := by
  rw [tailP, List.range_succ_eq_map, List.map_cons, List.map_map, tailP, List.singleton_append, show 8 - (i + 1) + 0 = 7 - i by omega]
  congr 1
  refine List.map_congr_left fun j _ => ?_
  show cb (n * 8) (8 - (i + 1) + (j + 1)) = _
  rw [show 8 - (i + 1) + (j + 1) = 8 - i + j by omega]
theorem cb_at (m i : Nat) (h : i < 8) : cb m (7 - i) = m / 256 ^ i % 256 := by
  unfold cb
  rw [show (256 : Nat) = 2 ^ 8 from rfl, ← Nat.pow_mul, show 56 - 8 * (7 - i) = 8 * i by omega]
theorem pad_eq (l : List Nat) : pad l = padP l (padN l.length) ++ tailL l.length := rfl
theorem OwnB.below {base : Nat} {w w' : World} {v : Value} {l : List Nat} (h : OwnB base w v l) (hB : Below w.heap.size w w') : OwnB base w' v l := by
  unfold OwnB at *
  rcases h with ⟨h1, h2⟩
  refine ⟨h1, ?_⟩
  rcases h2 with h2 | ⟨g, cap, cur, a, b, hg, c⟩
  · exact .inl h2
  · exact .inr ⟨g, cap, cur, a, b, by rw [hB.block g (lt_of_block hg)]; exact hg, c⟩

set_option maxHeartbeats 1000000 in
theorem padded_any (v : Value) (l : List Nat) (w : World) (hv : BytsN w v l) (hl : l.length ≤ 70368744177664) :
    Calls Tryd.prog 19 #[v] w fun e w' => ∃ v', e = .returned v' ∧ OwnB w.heap.size w' v' (pad l) ∧ Below w.heap.size w w' := by
  obtain ⟨p, cap, rfl⟩ := hv.shape
  have Hv := Lib.hid (fun w1 (hB : Below w.heap.size w w1) => hv.below hB)
  have hB0 : ∀ o, Below w.heap.size w (w.alloc o) := fun o => (Below.refl _ _).alloc (Nat.le_refl _) o
  have HB0 := Lib.hid hB0
  clear hv hB0
  go_enter Tryd.func19, Tryd.ntmps19
  go_wp2_with (first
    | (at_builtin; refine wpList_append_byts rfl (.tmp 7) (.tmp 8) rfl w.heap.size _ 0 [] rfl (own_none w) _ l (Hv.out _ (HB0.out _)) rfl (by omega) (by simp) ?_; intro v1 w1 hown1 hgrow1; have hB1 : Below w.heap.size w w1 := (HB0.out _).grown hgrow1 (by simp) (fun k hk => ((own_none w).lt k hk).1); rw [Nat.zero_add, List.nil_append] at hown1)
    | (at_builtin; refine wpList_append_byts rfl (.tmp 9) (.tmp 10) rfl w.heap.size _ l.length (cellsN l) rfl (hown1.alloc _) _ [128] (byts_one w1 128) rfl (by simp; omega) (by have := hB1.size; simp; omega) ?_; intro v2 w2 hown2 hgrow2; have hB2 : Below w.heap.size w w2 := (hB1.alloc hB1.size _).grown hgrow2 (by have := hB1.size; simp; omega) (fun k hk => (hown1.lt k hk).1); have HO2 := Lib.hid (own_add rfl hown2); clear hown1 hown2 hgrow1 hgrow2 hB1))
  have Hpad := Lib.hid (show padN l.length < 64 by unfold padN; omega)
  go_loopg [3] (padN l.length) (fun g ov wr => ∃ k : Nat, k + g = padN l.length ∧ OwnB w.heap.size wr ov (padP l k) ∧ Below w.heap.size w wr)
  case atStart => exact ⟨0, by omega, by simpa [padP] using HO2.out, hB2⟩
  case round =>
    obtain ⟨k, hkg, hown, hB⟩ := hrel
    clear HO2 hB2
    have h2 := hown
    unfold OwnB at h2
    rw [padP_len] at h2
    obtain ⟨g, cap2, rfl, hgb, hgl⟩ := h2.form (by omega)
    have hkn : k < 64 := by have := Hpad.out; omega
    have HO := Lib.hid hown
    clear hown h2
    by_cases hlt : k < padN l.length
    · have hne : (((l.length + 1 + k : Nat) : Int) % 64 != 56) = true := by
        rw [bne_iff_ne]; unfold padN at hlt; omega
      go_wp2_with (at_builtin; go_must (refine wpList_append_byts rfl (.tmp 16) (.tmp 17) rfl w.heap.size _ (l.length + 1 + k) (cellsN (padP l k)) rfl (by have h := HO.out; unfold OwnB at h; rw [padP_len] at h; exact h.alloc _) _ [0] (byts_one wr 0) rfl (by simp; omega) (by have := hB.size; simp; omega) ?_); intro v3 w3 hown3 hgrow3; have hB3 : Below w.heap.size w w3 := (hB.alloc hB.size _).grown hgrow3 (by have := hB.size; simp; omega) (fun k' hk' => by have h := HO.out; unfold OwnB at h; exact (h.lt k' hk').1); have HO3 := Lib.hid (own_add (padP_len l k).symm hown3); clear hown3 hgrow3 hB)
      go_roundg (gk - 1)
      case measure => omega
      case rel => exact ⟨k + 1, by omega, by rw [padP_succ]; exact HO3.out, hB3⟩
    · obtain rfl : k = padN l.length := by omega
      have hne : (((l.length : Int) + 1 + (padN l.length : Int)) % 64 != 56) = false := by
        rw [bne_eq_false_iff_eq]; unfold padN; omega
      go_wp2_with fail
      have Hne := Lib.hid hne
      clear hne
      obtain ⟨wo, hwo⟩ : ∃ wo, wo = wr := ⟨_, rfl⟩
      rw [← hwo] at HO hB ⊢
      clear hwo
      have HBo := Lib.hid hB
      have hBz := hB.size
      clear hB
      generalize hnn : l.length = n at *
      have Hnn := Lib.hid hnn
      clear hnn
      go_loopg [4, 5, 6] 8 (fun g nv tv iv wr => ∃ i x : Nat, i + g = 8 ∧ iv = .int .i64 i ∧ nv = .int .i64 x ∧ (i = 0 → x = n) ∧ (0 < i → x = n * 8 / 256 ^ i) ∧ BytsN wr tv (tailP n i) ∧ Below wo.heap.size wo wr)
      case atStart => exact ⟨0, n, by omega, rfl, rfl, fun _ => rfl, fun h => by omega, .inl ⟨rfl, rfl⟩, Below.refl _ _⟩
      case round =>
        obtain ⟨i, x, hig, rfl, rfl, hx0, hx1, ht, hB⟩ := hrel
        have hBs := hB.size
        obtain ⟨p3, cap3, rfl⟩ := ht.shape
        rw [tailP_len] at ht ⊢
        have HT := Lib.hid (fun w1 (h1 : Below wr.heap.size wr w1) => ht.below h1)
        clear ht
        by_cases hlt : i < 8
        · have hltI : (i : Int) < 8 := by omega
          have hts := tailP_succ n i hlt
          rw [cb_at _ _ hlt] at hts
          by_cases h0 : i = 0
          · subst h0
            obtain rfl : n = x := (hx0 rfl).symm
            obtain ⟨y, hy⟩ : ∃ y, y = n * 8 / 256 ^ 0 % 256 := ⟨_, rfl⟩
            rw [← hy] at hts
            have HY := Lib.hid (show (n : Int) % 32 * 8 = (y : Int) by rw [hy, Nat.pow_zero]; omega)
            have Hts := Lib.hid hts.symm
            clear hts hx0 hx1 hy
            go_wp2_with (at_builtin; go_must (refine wpList_append_byts rfl (.tmp 31) (.tmp 32) rfl wo.heap.size _ 1 (cellsN [y]) rfl (own_val wr _ _ y HY.out hBs) _ (tailP n 0) (HT.out _ ((Below.refl _ _).alloc (Nat.le_refl _) _)) rfl (by rw [tailP_len]; omega) (by simp; omega) ?_); intro v3 w3 hown3 hgrow3; have hB3 : Below wo.heap.size wo w3 := (hB.alloc hBs _).grown hgrow3 (by simp; omega) (fun k' hk' => ((own_val wr _ _ y HY.out hBs).lt k' hk').1); have HO3 := Lib.hid (own_add rfl hown3); clear hown3 hgrow3 hB)
            rw [Hts.out] at HO3
            go_roundg (gk - 1)
            case measure => omega
            case rel => exact ⟨0 + 1, n / 32, by omega, by go_num, by go_num, fun h => by omega, fun _ => by omega, HO3.out.byts, hB3⟩
          · obtain ⟨y, hy⟩ : ∃ y, y = n * 8 / 256 ^ i % 256 := ⟨_, rfl⟩
            have hxv := hx1 (by omega)
            have hx2 : x / 256 = n * 8 / 256 ^ (i + 1) := by rw [hxv, Nat.div_div_eq_div_mul, Nat.pow_succ]
            have hn8 : n * 8 / 256 ^ i ≤ n * 8 := Nat.div_le_self _ _
            have hxb : x ≤ 562949953421312 := by omega
            rw [← hy] at hts
            have HY := Lib.hid (show (x : Int) % 256 = (y : Int) by rw [hy, ← hxv]; omega)
            have Hts := Lib.hid hts.symm
            have Hx2 := Lib.hid hx2
            have h0I : ((i : Int) == 0) = false := by rw [beq_eq_false_iff_ne]; omega
            clear hts hx0 hx1 hy hxv hx2 hn8
            go_wp2_with (at_builtin; go_must (refine wpList_append_byts rfl (.tmp 39) (.tmp 40) rfl wo.heap.size _ 1 (cellsN [y]) rfl (own_val wr _ _ y HY.out hBs) _ (tailP n i) (HT.out _ ((Below.refl _ _).alloc (Nat.le_refl _) _)) rfl (by rw [tailP_len]; omega) (by simp; omega) ?_); intro v3 w3 hown3 hgrow3; have hB3 : Below wo.heap.size wo w3 := (hB.alloc hBs _).grown hgrow3 (by simp; omega) (fun k' hk' => ((own_val wr _ _ y HY.out hBs).lt k' hk').1); have HO3 := Lib.hid (own_add rfl hown3); clear hown3 hgrow3 hB)
            rw [Hts.out] at HO3
            go_roundg (gk - 1)
            case measure => omega
            case rel => exact ⟨i + 1, x / 256, by omega, by go_num, by go_num, fun h => by omega, fun _ => Hx2.out, HO3.out.byts, hB3⟩
        · obtain rfl : i = 8 := by omega
          have hnl : ¬ ((8 : Nat) : Int) < 8 := by omega
          clear hx0 hx1
          have HO4 := Lib.hid (HO.out.below hB)
          have hcl := tailP_len n 8
          have HO5 := Lib.hid (show wr.ownsRow w.heap.size 5 1 (.slice (some ⟨g, 0, none⟩) (n + 1 + padN n) cap2) (n + 1 + padN n) (cellsN (padP l (padN n))) by have h := HO4.out; unfold OwnB at h; rw [padP_len, Hnn.out] at h; exact h)
          have HPe := Lib.hid (show pad l = padP l (padN n) ++ tailP n 8 by rw [pad_eq, Hnn.out, tailP_eight])
          have HPl := Lib.hid (show n + 1 + padN n = (padP l (padN n)).length by rw [padP_len, Hnn.out])
          have hpn := Hpad.out
          have HB := Lib.hid hB
          clear hB hcl
          go_wp2_with (at_builtin; go_must (refine wpList_append_byts rfl (.tmp 44) (.tmp 45) rfl w.heap.size _ (n + 1 + padN n) (cellsN (padP l (padN n))) rfl HO5.out _ (tailP n 8) (HT.out _ (Below.refl _ _)) rfl (by rw [tailP_len]; omega) (by omega) ?_); intro v3 w3 hown3 hgrow3; have hB3 : Below w.heap.size w w3 := (HBo.out.trans (HB.out.mono hBz)).grown hgrow3 (by omega) (fun k' hk' => (HO5.out.lt k' hk').1); have HO3 := Lib.hid (own_add HPl.out hown3); clear hown3 hgrow3)
          go_ret
          exact ⟨v3, rfl, by rw [HPe.out]; exact HO3.out, hB3⟩
end Go.Proofs.YtbenegkhekofmaaDoor
