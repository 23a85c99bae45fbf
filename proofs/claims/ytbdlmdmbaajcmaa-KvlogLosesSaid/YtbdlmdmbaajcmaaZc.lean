/- An entry goes: slices.Delete of one; drop. -/
import Derived.Test.YtbdlmdmbaajcmaaZb
import Derived.Laws.OwnMore
namespace Go.Proofs.Ytbdlmdmbaajcmaa
set_option linter.unusedVariables false
set_option linter.unusedSimpArgs false
open Go.ChangeShapes Go.WideShapes Go.ChangeAt Go.RowKit

structure AtW (w0 : World) (x v : Value) (w : World) : Prop where
  e : v = x
  bl : Below w0.heap.size w0 w
theorem AtW.st1 (w0 : World) (x : Value) : K3.St1 (AtW w0 x) := fun v w1 w2 h hB => ⟨h.e, h.bl.trans (hB.mono h.bl.size)⟩
structure DelV (base g : Nat) (w0 : World) (L : List En) (i cap : Nat) (v : Value) (w : World) : Prop where
  e : v = .slice (some ⟨g, 0, none⟩) (i + (L.length - (i + 1))) cap
  o : w.ownsRow base 92 2 (.slice (some ⟨g, 0, none⟩) (i + (L.length - (i + 1))) cap) (i + (L.length - (i + 1))) (LF enV (L.eraseIdx i))
  k : Kept (fun q => q = g) w0 w
theorem DelV.st1 (base g : Nat) (w0 : World) (L : List En) (i cap : Nat) : K3.St1 (DelV base g w0 L i cap) := fun v w1 w2 h hB => ⟨h.e, gen_own_below h.o hB, h.k.trans' (Kept.of_below hB)⟩
theorem kept_grown {w w' : World} {g : Nat} (h : w.grownBy w' (some g)) : Kept (fun q => q = g) w w' :=
  ⟨h.os, h.tape, h.output, h.size, fun k hk hn => h.block k hk (fun e => hn (Option.some.inj e))⟩
theorem size92 (w : World) : (sizeOf 92).run Try.prog w = .ok 2 w := by
  obtain ⟨i0, z, hi, hz0, hz1, _⟩ := eltN.inf
  simp [sizeOf, typeInfo, hi, hz1]
theorem take_run (p : Option Addr) (len cap k : Nat) (hk : k ≤ cap) (hm : cap ≤ maxLen) (w1 : World) : (Instr.slice 76 (.slice p len cap) none (some (.int .i64 (k : Nat))) none).run Try.prog w1 = .ok (.slice p k cap) w1 := by
  rw [run_slice_h w1 76 _ _ _ (by rw [eltN.el]; exact eltN.tu) .i64 k (by omega) (by omega), eltN.el, size92]
  simp only [Result.andThen_ok, sliced, Int.toNat_natCast, Nat.zero_mul, Nat.sub_zero]
  have : (if cap = 0 then p else p.map fun x => x.add 0) = p := by
    split
    · rfl
    · cases p with
      | none => rfl
      | some a => simp [gen_addr_zero]
  rw [this]
theorem drop_run (b off len cap k : Nat) (hk : k ≤ len) (w1 : World) : (Instr.slice 76 (.slice (some ⟨b, off, none⟩) len cap) (some (.int .i64 (k : Nat))) none none).run Try.prog w1 = .ok (.slice (if cap = k then some ⟨b, off, none⟩ else some ⟨b, off + k * 2, none⟩) (len - k) (cap - k)) w1 := by
  rw [run_slice_l w1 76 _ _ _ (by rw [eltN.el]; exact eltN.tu) .i64 k (by omega) (by omega), eltN.el, size92]
  simp only [Result.andThen_ok, sliced, Int.toNat_natCast, Option.map_some, gen_add_off]
theorem zero92 (w : World) : (zeroValue 92).run Try.prog w = .ok (.agg #[.string ⟨#[]⟩, .string ⟨#[]⟩]) w := by
  have e : Try.t92.zero = some (.agg #[.string ⟨#[]⟩, .string ⟨#[]⟩]) := by kernel_rfl
  simp [zeroValue, go_sem, e]
/-- One element is cleared. -/
theorem clear_one (w : World) (ty g q c : Nat) (cur : Array Value) (hg : w.heap[g]? = some (.cells cur 92 (0, 0))) (hq : q * 2 + 2 ≤ cur.size) :
    (Builtin.clear_ #[76] ty #[.slice (some ⟨g, q * 2, none⟩) 1 c]).run Try.prog w = .ok (.tuple #[]) (w.setRow g (cur.toList.take (q * 2) ++ [Value.string ⟨#[]⟩, Value.string ⟨#[]⟩] ++ cur.toList.drop (q * 2 + 2)).toArray) := by
  have hst := run_storeCells_at Try.prog g (q * 2) 92 [Value.string ⟨#[]⟩, Value.string ⟨#[]⟩] 0 cur w hg (by simpa using hq) (by intro v hv; simp at hv; subst hv; rfl)
  simp only [Nat.add_zero, List.length_cons, List.length_nil] at hst
  have hz : (Builtin.zeroCells #[Value.string ⟨#[]⟩, Value.string ⟨#[]⟩] 1).toList = [Value.string ⟨#[]⟩, Value.string ⟨#[]⟩] := by
    simp [Builtin.zeroCells, List.range_succ]
  have hc : (Value.agg #[Value.string ⟨#[]⟩, Value.string ⟨#[]⟩]).cells = #[Value.string ⟨#[]⟩, Value.string ⟨#[]⟩] := by simp [Value.cells]
  simp [Builtin.clear_, run_underlying Try.underlying76, zero92, hz, hc, hst]
def LenIs (L : List En) (n : Nat) : Prop := L.length = n
def DelEnd (base : Nat) (v : Value) (L : List En) (i : Nat) (w : World) (e : Ending) (w' : World) : Prop := ∃ g c, v = .slice (some ⟨g, 0, none⟩) L.length c ∧ e = .returned (.slice (some ⟨g, 0, none⟩) (L.length - 1) c) ∧ w'.ownsRow base 92 2 (.slice (some ⟨g, 0, none⟩) (L.length - 1) c) (L.eraseIdx i).length (LF enV (L.eraseIdx i)) ∧ Kept (fun q => q = g) w w'
set_option maxRecDepth 100000 in
set_option maxHeartbeats 4000000 in
/-- One entry is deleted, in its place. -/
theorem del_any {base : Nat} {v : Value} {L : List En} {w : World} (hown : w.ownsRow base 92 2 v L.length (LF enV L)) (i : Nat) (hi : i < L.length) (hl : L.length ≤ 16777216) (hbase : base ≤ w.heap.size) :
    Calls Try.prog 79 #[v, .int .i64 (i : Nat), .int .i64 ((i : Nat) + 1)] w (DelEnd base v L i w) := by
  have HO0 := Lib.hid hown
  rcases hown.2 with ⟨_, h0⟩ | ⟨g, cap, cur, rfl, hbg, hg, hcap, hmax, hsz, htake⟩
  · omega
  have hmax2 : cap ≤ 9223372036854775807 := by unfold maxLen at hmax; omega
  obtain ⟨i0, z0, hi0, hz0, hz1, hz2, hzs⟩ := eltN.inf
  have hlat : LAt 2 enV w (.slice (some ⟨g, 0, none⟩) L.length cap) L := LAt.own (fun x _ => enV_len x) hown
  have HO := Lib.hid (show w.ownsRow base 92 2 (.slice (some ⟨g, 0, none⟩) i cap) i (LF enV (L.take i)) from ⟨by rw [LF_len _ (fun x _ => enV_len x), List.length_take]; omega, .inr ⟨g, cap, cur, rfl, hbg, hg, by omega, hmax, hsz, by
    have e : LF enV L = LF enV (L.take i) ++ LF enV (L.drop i) := by rw [← LF_app, List.take_append_drop]
    have hlt : (LF enV (L.take i)).length = i * 2 := by rw [LF_len _ (fun x _ => enV_len x), List.length_take]; omega
    have h2 : cur.toList.take (i * 2) = (cur.toList.take (L.length * 2)).take (i * 2) := by rw [List.take_take, Nat.min_eq_left (by omega)]
    rw [h2, htake, e, List.take_left' hlt]⟩⟩)
  obtain ⟨A, hA⟩ : ∃ A : Addr, (if cap = i + 1 then (some ⟨g, 0, none⟩ : Option Addr) else some ⟨g, 0 + (i + 1) * 2, none⟩) = some A := by
    by_cases h : cap = i + 1
    · exact ⟨_, if_pos h⟩
    · exact ⟨_, if_neg h⟩
  have hAg : ∀ j, (A.add j).block = g := fun j => by
    by_cases h : cap = i + 1
    · rw [if_pos h] at hA; injection hA with hA; rw [← hA, gen_add_off]
    · rw [if_neg h] at hA; injection hA with hA; rw [← hA, gen_add_off]
  have HA := Lib.hid (show ∀ j u, (LF enV (L.drop (i + 1)))[j]? = some u → w.cell? (A.add j) = some u from fun j u hj => by
    have hjl := (List.getElem?_eq_some_iff.1 hj).1
    rw [LF_len _ (fun x _ => enV_len x), List.length_drop] at hjl
    rw [if_neg (by omega)] at hA
    injection hA with hA
    rw [← hA, gen_add_off, block_cell hg]
    have e : LF enV L = LF enV (L.take (i + 1)) ++ LF enV (L.drop (i + 1)) := by rw [← LF_app, List.take_append_drop]
    have hlt : (LF enV (L.take (i + 1))).length = (i + 1) * 2 := by rw [LF_len _ (fun x _ => enV_len x), List.length_take]; omega
    have h3 : (LF enV L)[(i + 1) * 2 + j]? = some u := by rw [e, List.getElem?_append_right (by omega), hlt, Nat.add_sub_cancel_left]; exact hj
    rw [← htake, List.getElem?_take_of_lt (by omega), Array.getElem?_toList] at h3
    rw [Nat.zero_add]
    exact h3)
  have HAlt := Lib.hid (show ∀ j u, (LF enV (L.drop (i + 1)))[j]? = some u → (A.add j).block < w.heap.size from fun j u _ => by rw [hAg]; exact lt_of_block hg)
  have HT := Lib.hid (show ∀ w1, (Instr.sliceAt 76 (.slice (some ⟨g, 0, none⟩) L.length cap) none (some (.int .i64 (i : Nat))) none).run Try.prog w1 = .ok (.slice (some ⟨g, 0, none⟩) i cap) w1 from fun w1 => by
    rw [run_sliceAt_slice w1 76 _ _ _ _ (by rw [eltN.el]; exact eltN.tu)]
    exact take_run (some ⟨g, 0, none⟩) L.length cap i (by omega) hmax w1)
  have hdr := fun w1 => drop_run g 0 L.length cap (i + 1) (by omega) w1
  rw [hA] at hdr
  have HD := Lib.hid (show ∀ w1, (Instr.sliceAt 76 (.slice (some ⟨g, 0, none⟩) L.length cap) (some (.int .i64 ((i : Nat) + 1))) none none).run Try.prog w1 = .ok (.slice (some A) (L.length - (i + 1)) (cap - (i + 1))) w1 from fun w1 => by
    rw [run_sliceAt_slice w1 76 _ _ _ _ (by rw [eltN.el]; exact eltN.tu)]
    have := hdr w1
    rwa [show (((i + 1 : Nat) : Int)) = (i : Int) + 1 by omega] at this)
  have hfit : i + (L.length - (i + 1)) ≤ cap := by omega
  have hiI : (i : Int) + 1 ≤ (L.length : Int) := by omega
  have hi0I : (0 : Int) ≤ (i : Int) + 1 := by omega
  have hlcI : (L.length : Int) ≤ (cap : Int) := by omega
  have hne : ((i : Int) == (i : Int) + 1) = false := beq_eq_false_iff_ne.2 (by omega)
  have hic : i ≤ cap := by omega
  have hgb := lt_of_block hg
  clear hdr hA hlat hown htake hsz hg
  go_enter Try.func79, Try.ntmps79
  go_upto_region 5 with fail
  generalize w = w10 at *
  have hd4 : Below w10.heap.size w10 w10.drew := (Below.refl _ _).drew
  have hRL : ∃ Rs : List (Value → World → Prop), Rs = [K3.PureV (.slice (some ⟨g, 0, none⟩) L.length cap),
      K3.PureV (.int .i64 (i : Nat)),
      K3.PureV (.slice (some ⟨g, 0, none⟩) i cap),
      K3.PureV (.slice (some ⟨g, 0, none⟩) L.length cap),
      K3.PureV (.int .i64 ((i : Nat) + 1)),
      AtW w10 (.slice (some A) (L.length - (i + 1)) (cap - (i + 1))),
      DelV base g w10 L i cap,
      DelV base g w10 L i cap] := ⟨_, rfl⟩
  obtain ⟨Rs, hRs⟩ := hRL
  refine K3.wp_region_rel2 base hbase (K3.RL Rs) [2, 2, 2, 2, 2, 1, 1, 1] [1, 1, 1, 1, 1, 1, 2, 1] [[], [], [], [], [], [], [5], []] (by kernel_rfl) (by kernel_rfl) (K3.RL.st1 (by rw [hRs]; exact K3.st1_cons (K3.PureV.st1 _) (K3.st1_cons (K3.PureV.st1 _) (K3.st1_cons (K3.PureV.st1 _) (K3.st1_cons (K3.PureV.st1 _) (K3.st1_cons (K3.PureV.st1 _) (K3.st1_cons (AtW.st1 _ _) (K3.st1_cons (DelV.st1 _ _ _ _ _ _) (K3.st1_cons (DelV.st1 _ _ _ _ _ _) (K3.st1_nil)))))))))) (K3.RL.st2 (by rw [hRs]; exact K3.st2_cons (K3.PureV.st2 _ _ _) (K3.st2_cons (K3.PureV.st2 _ _ _) (K3.st2_cons (K3.PureV.st2 _ _ _) (K3.st2_cons (K3.PureV.st2 _ _ _) (K3.st2_cons (K3.PureV.st2 _ _ _) (K3.st2_skip (K3.st2_skip (K3.st2_skip (K3.st2_nil)))))))))) ?_ ?_ ?_
  · intro i o d hi hd
    have hmem := List.mem_of_getElem? hi
    simp only [List.mem_cons, List.not_mem_nil, or_false] at hmem
    rcases hmem with rfl | rfl | rfl | rfl | rfl | rfl | rfl | rfl <;> simp at hd <;> (subst hd; simp)
  · refine K3.rel_start (Φ := K3.Hop _ _ _ _ _ _ _) ?_
    refine K3.rel_cons (Φ := K3.Hop _ _ _ _ _ _ _) (k := 0) ?_ ?_
    · intro fa fw hfB hfN hfE hfk hft
      have k0 : fa.eval (.tmp 0) = .slice (some ⟨g, 0, none⟩) L.length cap := hft 0 (K3.mem_looks (by kernel_rfl)) (K3.noneed (by kernel_rfl))
      rw [hRs]
      refine K3.hop_plain rfl ?_
      refine K3.out_move rfl ?_
      exact ⟨k0, Below.refl _ _⟩
    refine K3.rel_cons (Φ := K3.Hop _ _ _ _ _ _ _) (k := 1) ?_ ?_
    · intro fa fw hfB hfN hfE hfk hft
      have k1 : fa.eval (.tmp 1) = .int .i64 (i : Nat) := hft 1 (K3.mem_looks (by kernel_rfl)) (K3.noneed (by kernel_rfl))
      rw [hRs]
      refine K3.hop_plain rfl ?_
      refine K3.out_move rfl ?_
      exact ⟨k1, Below.refl _ _⟩
    refine K3.rel_cons (Φ := K3.Hop _ _ _ _ _ _ _) (k := 2) ?_ ?_
    · intro fa fw hfB hfN hfE hfk hft
      have k20 : fa.eval (.tmp 20) = (.slice (some ⟨g, 0, none⟩) L.length cap) := by have := hfk 0 (K3.mem_needs (by kernel_rfl)) _ rfl; rw [hRs] at this; exact this
      have k21 : fa.eval (.tmp 21) = (.int .i64 (i : Nat)) := by have := hfk 1 (K3.mem_needs (by kernel_rfl)) _ rfl; rw [hRs] at this; exact this
      rw [hRs]
      refine K3.hop_plain rfl ?_
      generalize fa.eval = ρ at *
      exact K3.out_run (v := .slice (some ⟨g, 0, none⟩) i cap) (w' := fw) (by simp [execOp, k20, k21, HT.out fw]) ⟨rfl, Below.refl _ _⟩
    refine K3.rel_cons (Φ := K3.Hop _ _ _ _ _ _ _) (k := 3) ?_ ?_
    · intro fa fw hfB hfN hfE hfk hft
      have k0 : fa.eval (.tmp 0) = .slice (some ⟨g, 0, none⟩) L.length cap := hft 0 (K3.mem_looks (by kernel_rfl)) (K3.noneed (by kernel_rfl))
      rw [hRs]
      refine K3.hop_plain rfl ?_
      refine K3.out_move rfl ?_
      exact ⟨k0, Below.refl _ _⟩
    refine K3.rel_cons (Φ := K3.Hop _ _ _ _ _ _ _) (k := 4) ?_ ?_
    · intro fa fw hfB hfN hfE hfk hft
      have k2 : fa.eval (.tmp 2) = .int .i64 ((i : Nat) + 1) := hft 2 (K3.mem_looks (by kernel_rfl)) (K3.noneed (by kernel_rfl))
      rw [hRs]
      refine K3.hop_plain rfl ?_
      refine K3.out_move rfl ?_
      exact ⟨k2, Below.refl _ _⟩
    refine K3.rel_cons (Φ := K3.Hop _ _ _ _ _ _ _) (k := 5) ?_ ?_
    · intro fa fw hfB hfN hfE hfk hft
      have hE : Below w10.drew.heap.size w10.drew fw := hfE (by kernel_rfl)
      have k23 : fa.eval (.tmp 23) = (.slice (some ⟨g, 0, none⟩) L.length cap) := by have := hfk 3 (K3.mem_needs (by kernel_rfl)) _ rfl; rw [hRs] at this; exact this
      have k24 : fa.eval (.tmp 24) = (.int .i64 ((i : Nat) + 1)) := by have := hfk 4 (K3.mem_needs (by kernel_rfl)) _ rfl; rw [hRs] at this; exact this
      rw [hRs]
      refine K3.hop_plain rfl ?_
      generalize fa.eval = ρ at *
      exact K3.out_run (v := .slice (some A) (L.length - (i + 1)) (cap - (i + 1))) (w' := fw) (by simp [execOp, k23, k24, HD.out fw]) ⟨⟨rfl, hd4.trans hE⟩, Below.refl _ _⟩
    refine K3.rel_cons (Φ := K3.Hop _ _ _ _ _ _ _) (k := 6) ?_ ?_
    · intro fa fw hfB hfN hfE hfk hft
      have k22 : fa.eval (.tmp 22) = (.slice (some ⟨g, 0, none⟩) i cap) := by have := hfk 2 (K3.mem_needs (by kernel_rfl)) _ rfl; rw [hRs] at this; exact this
      have k25 : (AtW w10 (.slice (some A) (L.length - (i + 1)) (cap - (i + 1)))) (fa.eval (.tmp 25)) fw := by have := hfk 5 (K3.mem_needs (by kernel_rfl)) _ rfl; rw [hRs] at this; exact this
      rw [hRs]
      refine K3.hop_plain rfl ?_
      obtain ⟨hv2, hb2⟩ := k25
      obtain ⟨w', hr, ho, hg⟩ := run_append_fits fw base 76 76 92 i0 2 Try.underlying76 hi0 hz1 g i cap (LF enV (L.take i)) (own_block HO.out (fun q hq => hb2.block q (own_lt HO.out q hq).1)) A (L.length - (i + 1)) (cap - (i + 1)) (LF enV (L.drop (i + 1))) (by rw [LF_len _ (fun x _ => enV_len x), List.length_drop]) (fun j u hj => by
        have h1 := HA.out j u hj
        have hlt := (HAlt.out j u hj)
        rw [← h1]
        exact hb2.cell hlt) (fun u hu => LF_mem eltN hu) hfit
      exact out_append_k3 (.tmp 22) (.tmp 25) 76 rfl k22 hv2 hr ⟨⟨rfl, by rw [List.eraseIdx_eq_take_drop_succ, LF_app]; exact ho, (Kept.of_below hb2).trans' (kept_grown hg)⟩, (Below.refl base fw).grown hg (Nat.le_trans hbase hb2.size) (fun q hq => by injection hq with hq; omega)⟩
    refine K3.rel_cons (Φ := K3.Hop _ _ _ _ _ _ _) (k := 7) ?_ ?_
    · intro fa fw hfB hfN hfE hfk hft
      have k26 : (DelV base g w10 L i cap) (fa.eval (.tmp 26)) fw := by have := hfk 6 (K3.mem_needs (by kernel_rfl)) _ rfl; rw [hRs] at this; exact this
      rw [hRs]
      refine K3.hop_plain rfl ?_
      refine K3.out_assign rfl ?_
      exact ⟨k26, Below.refl _ _⟩
    exact K3.rel_nil
  · intro fa fw hfB hfy hff hfs hfd
    rw [hRs] at hfy
    have k0 : DelV base g w10 L i cap (fa.tmps.getD 0 undef) fw := hfy 7 _ rfl (K3.unkilled (by decide))
    have e := K3.rel_frame [20, 21, 22, 23, 24, 25, 26, 0] (by kernel_rfl) hff hfs hfd
    simp only [List.foldl] at e
    clear hfy hff hfs hfd 
    generalize fa.tmps.getD 20 undef = x20 at e
    generalize fa.tmps.getD 21 undef = x21 at e
    generalize fa.tmps.getD 22 undef = x22 at e
    generalize fa.tmps.getD 23 undef = x23 at e
    generalize fa.tmps.getD 24 undef = x24 at e
    generalize fa.tmps.getD 25 undef = x25 at e
    generalize fa.tmps.getD 26 undef = x26 at e
    generalize fa.tmps.getD 0 undef = x0 at e k0
    simp [List.setIfInBounds_toArray, List.set_cons_succ, List.set_cons_zero] at e
    subst e
    obtain ⟨ke, ko, kk⟩ := k0
    rw [ke]
    have Hko := Lib.hid ko
    have Hkk := Lib.hid kk
    clear ke ko kk hfB HA HAlt HT HD HO HO0 hne
    obtain ⟨q, hq⟩ : ∃ q, i + (L.length - (i + 1)) = q := ⟨_, rfl⟩
    have hLq : L.length = q + 1 := by omega
    have HLq : LenIs L (q + 1) := hLq
    have hel := Lib.hid (show LenIs (L.eraseIdx i) q by unfold LenIs; rw [List.length_eraseIdx_of_lt hi]; omega)
    rw [hq] at Hko ⊢
    have hko := Hko.out
    rcases hko.2 with ⟨h0, _⟩ | ⟨g2, cap2, cur2, hv2, hbg2, hg2, hcap2, hmax3, hsz2, htake2⟩
    · cases h0
    simp only [Value.slice.injEq, Option.some.injEq, Addr.mk.injEq, and_true, true_and] at hv2
    obtain ⟨rfl, rfl⟩ := hv2
    have hcl := fun ty => clear_one fw ty g q (cap - q) cur2 hg2 (by omega)
    have HW2 := Lib.hid (show (fw.setRow g (cur2.toList.take (q * 2) ++ [Value.string ⟨#[]⟩, Value.string ⟨#[]⟩] ++ cur2.toList.drop (q * 2 + 2)).toArray).ownsRow base 92 2 (.slice (some ⟨g, 0, none⟩) q cap) q (LF enV (L.eraseIdx i)) from ⟨hko.1, .inr ⟨g, cap, _, rfl, hbg, setRow_heap _ _ _ _ _ _ hg2, hcap2, hmax, by
      simp only [List.size_toArray, List.length_append, List.length_take, List.length_drop, Array.length_toList, List.length_cons, List.length_nil]
      omega, by
      rw [List.append_assoc, List.take_left' (by rw [List.length_take, Array.length_toList]; omega)]
      exact htake2⟩⟩)
    have HKq := Lib.hid (show Kept (fun x => x = g) w10 (fw.setRow g (cur2.toList.take (q * 2) ++ [Value.string ⟨#[]⟩, Value.string ⟨#[]⟩] ++ cur2.toList.drop (q * 2 + 2)).toArray) from Hkk.out.trans' ⟨rfl, rfl, rfl, by simp [World.setRow], fun k _ hk => setRow_other _ _ _ _ hk⟩)
    generalize fw.setRow g (cur2.toList.take (q * 2) ++ [Value.string ⟨#[]⟩, Value.string ⟨#[]⟩] ++ cur2.toList.drop (q * 2 + 2)).toArray = w2 at *
    have hqcI : (q : Int) < (cap : Int) := by omega
    have hqc : q < cap := by omega
    have hqc1 : q + 1 ≤ cap := by omega
    have hqc2 : cap ≠ q := by omega
    have hqc3 : cap - q ≠ 0 := by omega
    have hqb : q + 1 ≤ 16777216 := by omega
    clear hg2 htake2 hsz2 hko Hko Hkk hq hfit hiI hi0I hlcI hic hcap hcap2
    generalize L.length = len at *
    subst hLq
    go_wp2_with fail
    go_ret
    have hL2 : L.length = q + 1 := HLq
    refine ⟨g, cap, by rw [hL2], ?_, ?_, HKq.out⟩
    · rw [hL2]; rfl
    · rw [show (L.eraseIdx i).length = q from hel.out, hL2]; exact HW2.out
end Go.Proofs.Ytbdlmdmbaajcmaa
