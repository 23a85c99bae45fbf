/- Walks: Sum; what the document tells. -/
import Derived.Test.YtbenegkhekofmaaDoorJk
import Derived.Test.YtbenegkhekofmaaDoorWm
namespace Go.Proofs.YtbenegkhekofmaaDoor
set_option linter.unusedVariables false
open Go.ChangeShapes Go.WideShapes Go.ChangeAt Go.RowKit

theorem Tryd.info9 : (Tryd.prog.info? 9).map (fun i => (i.zero, i.size, i.bytes)) = some (some (.string ⟨#[]⟩), 1, 16) := by kernel_rfl

theorem joinB_size (ss : List ByteArray) : (joinB ss).size = 8 + 8 * ss.length + total ss := by
  rw [← ba_len, joinB_list, List.length_append, numB_len, partsL_len]; omega
theorem Strs.shape {w : World} {v : Value} {ss : List ByteArray} (h : Strs w v ss) : ∃ p cap, v = .slice p ss.length cap := by
  rcases h with ⟨⟨p, cap, rfl⟩, rfl⟩ | ⟨b, off, cap, hv, hl, hm, hb, hcell⟩
  · exact ⟨p, cap, rfl⟩
  · exact ⟨_, cap, hv⟩

theorem run_append_none_cap {P : Program} {w : World} (base : Nat) (t ty e : TypeId) (i : TypeInfo) (size c : Nat) (ht : P.underlying t = some (.slice e)) (hi : P.info? e = some i)
    (v : Value) (n : Nat) (xs : List Value) (hown : w.ownsRow base e size v n xs) :
    (Builtin.append_ #[t, t] ty #[v, .slice none 0 c]).run P w = .ok v w := by
  rcases hown.2 with ⟨rfl, rfl⟩ | ⟨g, cap, cur, rfl, _, _, hnc, _⟩
  · simp [Builtin.append_, run_underlying ht, sizeOf, typeInfo, hi, Builtin.lenOf, Builtin.firstCells]
  · simp [Builtin.append_, run_underlying ht, sizeOf, typeInfo, hi, Builtin.lenOf, Builtin.firstCells, hnc, storeCells]

/-- Texts are put behind a row of texts that is owned. -/
theorem wpList_append_strs {w : World} {ops : Array Oper} {rest : List Oper} {o : Oper} {a : Act} {Q : Exit → Act → World → Prop} (hgd : o.guard = none) (s x : Operand)
    (ho : o.op = .call { callee := .builtin .append, args := #[s, x], argTypes := #[30, 30] }) (base : Nat) (v : Value) (xs : List ByteArray) (hs : a.eval s = v) (hown : w.ownsRow base 9 1 v xs.length (xs.map Value.string))
    (u : Value) (l : List ByteArray) (hu : Strs w u l) (hx : a.eval x = u) (hb : (xs.length + l.length) * 16 ≤ 140737488355328) (hbase : base ≤ w.heap.size)
    (h : ∀ v' w', w'.ownsRow base 9 1 v' (xs ++ l).length ((xs ++ l).map Value.string) → w.grownBy w' v.ownBlock → wpList Tryd.prog ops Q rest (a.put o.dst v') w') : wpList Tryd.prog ops Q (o :: rest) a w := by
  obtain ⟨i0, hi, hz0, hz1, hz2⟩ := info_parts Tryd.info9
  rcases hu with ⟨⟨p, cap, rfl⟩, rfl⟩ | ⟨b, off, cap, rfl, hcap, hmax, hb2, hcell⟩
  · cases p with
    | none =>
      have hr := run_append_none_cap (P := Tryd.prog) base 30 o.type 9 i0 1 cap Tryd.underlying30 hi v xs.length (xs.map Value.string) hown
      refine wpList_plain hgd fun K hK => ?_
      unfold Oper.wp execOp
      simp only [ho, resolve, invoke, builtin, Sem.run_bind, Sem.run_pure, Result.andThen_ok, List.map_toArray, List.map_cons, List.map_nil, hs, hx]
      have hr' : (Builtin.append_ #[30, 30] o.type #[v, .slice none ([] : List ByteArray).length cap]).run Tryd.prog w = .ok v w := hr
      simp only [List.length_nil] at hr'
      first
        | (rw [hr']; exact hK _ _ (h v w (by simpa using hown) (World.grownBy.refl _ _)))
        | (simp only [hr']; exact hK _ _ (h v w (by simpa using hown) (World.grownBy.refl _ _)))
    | some ad =>
      exact wpList_append_own w hgd s x 30 ho base 9 i0 (.string ⟨#[]⟩) 1 16 Tryd.underlying30 hi hz0 hz1 hz2 rfl (by decide) v xs.length (xs.map Value.string) hs hown ad 0 cap [] hx rfl (fun j u h => by simp at h) (fun u h => by simp at h) (by unfold maxLen; simp at hb; omega) (by simpa using hb) hbase (fun v' w' h1 h2 _ => h v' w' (by simpa using h1) h2)
  · refine wpList_append_own w hgd s x 30 ho base 9 i0 (.string ⟨#[]⟩) 1 16 Tryd.underlying30 hi hz0 hz1 hz2 rfl (by decide) v xs.length (xs.map Value.string) hs hown ⟨b, off, none⟩ l.length cap (l.map Value.string) hx (by simp) (fun j y hj => ?_) (fun y hy => by obtain ⟨s, _, rfl⟩ := List.mem_map.1 hy; rfl) (by unfold maxLen; omega) hb hbase (fun v' w' h1 h2 _ => h v' w' (by simpa using h1) h2)
    have hjl : j < l.length := by have := (List.getElem?_eq_some_iff.1 hj).1; simpa using this
    rw [add_none, hcell j hjl]
    rw [List.getElem?_map, List.getElem?_eq_getElem hjl] at hj
    simpa [List.getD, hjl] using hj

theorem Strs.ofOwn {w : World} {base : Nat} {v : Value} {ss : List ByteArray} (h : w.ownsRow base 9 1 v ss.length (ss.map Value.string)) : Strs w v ss := Strs.ofRow h
theorem strs_one (w : World) (s : ByteArray) : Strs (w.alloc (.cells #[.string s] 9)) (.slice (some ⟨w.heap.size, 0, none⟩) 1 1) [s] :=
  .inr ⟨w.heap.size, 0, 1, rfl, by simp, by unfold maxLen; decide, by simp, fun i hi => by
    obtain rfl : i = 0 := by simpa using hi
    rw [World.cell?_alloc_at _ _ _ _ rfl]; rfl⟩
theorem own_text (w : World) (base : Nat) (s : ByteArray) (hb : base ≤ w.heap.size) : (w.alloc (.cells #[.string s] 9)).ownsRow base 9 1 (.slice (some ⟨w.heap.size, 0, none⟩) 1 1) [s].length ([s].map Value.string) :=
  World.ownsRow_lit w #[.string s] 1 hb (by unfold maxLen; decide) rfl

set_option maxHeartbeats 1000000 in
theorem sum_any (p : ByteArray) (v : Value) (ss : List ByteArray) (w : World) (hK : KeysAt w) (hv : Strs w v ss) (hz : total (p :: ss) ≤ 1099511627776) (hl : ss.length ≤ 1099511627) :
    Calls Tryd.prog 12 #[.string p, v] w fun e w' => e = .returned (.agg (ints .u8 (shaL (bytesL (joinB (p :: ss)))))) ∧ Below w.heap.size w w' := by
  obtain ⟨pp, cap, rfl⟩ := hv.shape
  have Hv := Lib.hid (fun w1 (hB : Below w.heap.size w w1) => hv.below hB)
  have HK := Lib.hid hK
  have Hz := Lib.hid hz
  obtain ⟨i0, hi, hz0, hz1, hz2⟩ := info_parts Tryd.info9
  obtain ⟨n, hn⟩ : ∃ n, n = ss.length := ⟨_, rfl⟩
  rw [← hn] at Hv hl ⊢
  have Hn := Lib.hid hn
  clear hv hK hz hn
  have HKb := Lib.hid (fun o => HK.out.below (w' := w.alloc o) HK.out.1 ((Below.refl _ _).alloc (Nat.le_refl _) o))
  have HA0 := Lib.hid (fun z hz => (arr_zero (heap_alloc_new w (.cells z 24)) hz : Arr (w.alloc (.cells z 24)) w.heap.size 24 32 .u8 []))
  have HB0 := Lib.hid (fun o => (Below.refl w.heap.size w).alloc (Nat.le_refl _) o)
  have hw0 := HK.out.1
  have HSZ := Lib.hid (fun o => (by simp : (w.alloc o).heap.size = w.heap.size + 1))
  go_enter Tryd.func12, Tryd.ntmps12
  go_wp2_with (first
    | (at_make; refine wpList_make_own _ rfl _ _ 30 rfl (w.heap.size + 1) 9 i0 (.string ⟨#[]⟩) 1 Tryd.underlying30 hi hz0 hz1 .i64 .i64 _ (1 + n) rfl rfl (by omega) (by rw [hz2]; omega) (by unfold maxLen; omega) (by simp) ?_; intro w1 hown1 hgrow1; have hB1 : Below (w.heap.size + 1) _ w1 := (Below.refl _ _).grown hgrow1 (by simp) (fun k h => by cases h); go_must (rw [HSZ.out] at hown1))
    | (at_builtin; refine wpList_append_strs rfl (.tmp 10) (.tmp 12) rfl (w.heap.size + 1) _ [] rfl (hown1.alloc _) _ [p] (strs_one w1 p) rfl (by simp) (by have := hB1.size; simp at this ⊢; omega) ?_; intro v2 w2 hown2 hgrow2; have hB2 := (hB1.alloc (by have := hB1.size; simp at this; omega) _).grown hgrow2 (by have := hB1.size; simp at this ⊢; omega) (fun k hk => (hown1.lt k hk).1); clear hown1 hgrow1 hgrow2 hB1)
    | (at_builtin; refine wpList_append_strs rfl (.tmp 14) (.tmp 15) rfl (w.heap.size + 1) _ [p] rfl hown2 _ ss (Hv.out w2 ((HB0.out _).trans (hB2.mono (by omega)))) rfl (by have := Hn.out; simp; omega) (by have := hB2.size; simp at this; omega) ?_; intro v3 w3 hown3 hgrow3; have hB3 := hB2.grown hgrow3 (by have := hB2.size; simp at this; omega) (fun k hk => (hown2.lt k hk).1); clear hown2 hgrow3 hB2))
  have hs3 : Strs w3 v3 (p :: ss) := Strs.ofOwn hown3
  have hb3 : Below w.heap.size w w3 := (HB0.out _).trans (hB3.mono (by omega))
  have hA3 : Arr w3 w.heap.size 24 32 .u8 [] := (HA0.out _ rfl).heap (hB3.block w.heap.size (by omega))
  have hJ := join_any v3 (p :: ss) w3 hs3 Hz.out (by have := Hn.out; simp; omega)
  have hjz : (joinB (p :: ss)).size ≤ 140737488355328 := by
    have h := joinB_size (p :: ss)
    have h1 := Hz.out
    have h2 := Hn.out
    simp only [List.length_cons] at h
    omega
  have HJ := Lib.hid hJ
  have HA3 := Lib.hid hA3
  have HB3 := Lib.hid hb3
  clear hs3 hown3 hB3 hb3 hA3 hJ
  obtain ⟨x, hx⟩ : ∃ x, x = joinB (p :: ss) := ⟨_, rfl⟩
  rw [← hx] at HJ hjz
  obtain ⟨D, hDe⟩ : ∃ D, D = shaL (bytesL x) := ⟨_, rfl⟩
  have HDs := Lib.hid (show D = shaL (bytesL (joinB (p :: ss))) by rw [hDe, hx])
  have HDe := Lib.hid hDe
  clear hDe hx
  refine HJ.out.mono ?_
  rintro e w4 ⟨rfl, hB4⟩
  have hb4 := HB3.out.trans (hB4.mono HB3.out.size)
  have HO := Lib.hid (of_any x w4 (HK.out.below HK.out.1 hb4) hjz)
  have HA4 := Lib.hid (HA3.out.below hB4)
  have HB4 := Lib.hid hb4
  clear hB4 hb4 HJ HA3 HB3
  go_wp2_with fail
  refine HO.out.mono ?_
  rintro e w5 ⟨rfl, hB5⟩
  have HA5 := Lib.hid (HA4.out.below hB5)
  have HB5 := Lib.hid (HB4.out.trans (hB5.mono HB4.out.size))
  have HDl := Lib.hid (shaL_len (bytesL x))
  clear hB5 HO
  rw [← HDe.out] at HDl ⊢
  have Hz24 := Lib.hid (show (Tryd.prog.info? 24).map (·.size) = some (ints .u8 D).size by rw [ints_size, HDl.out]; kernel_rfl)
  obtain ⟨old, ho1, ho2, _⟩ := HA5.out
  have Ho1 := Lib.hid ho1
  have Ho3 := Lib.hid (show old.size = (ints .u8 D).size by rw [ints_size, HDl.out, ho2])
  clear ho1 ho2
  go_wp2_with (refine wpList_store_rowTo rfl 24 _ _ rfl rfl w.heap.size (ints .u8 D) rfl rfl 24 _ Ho1.out Hz24.out Ho3.out (ints_one _ _) ?_)
  refine bodyPost_ret (v := .agg (ints .u8 D)) (results_cell_row (fr := (0, 0)) rfl _ _ w.heap.size 24 _ _ rfl (setRow_heap _ _ _ _ _ _ Ho1.out) Tryd.underlying24 rfl Hz24.out) rfl ⟨by rw [HDs.out], below_setRow HB5.out (Nat.le_refl _) _⟩
end Go.Proofs.YtbenegkhekofmaaDoor
