/- Walks: the statement ShaSums. -/
import Derived.Test.YtbenegkhekofmaaDoorLc
import Derived.Test.YtbenegkhekofmaaDoorAo
namespace Go.Proofs.YtbenegkhekofmaaDoor
set_option linter.unusedVariables false
open Go.ChangeShapes Go.WideShapes Go.ChangeAt Go.RowKit

theorem wpList_load_row_g {P : Program} {ops : Array Oper} {rest : List Oper} {o : Oper} {a : Act} {w : World} {Q : Exit → Act → World → Prop} (hw : Region.wanted o (yielded ops a.tmps) = true) (ty : TypeId) (x : Operand) (ho : o.op = .load ty x)
    (g : Nat) (hx : a.eval x = .pointer (some ⟨g, 0, none⟩)) (t : TypeId) (cs : Array Value) (fr : Nat × Nat) (d : TypeDesc) (hg : w.heap[g]? = some (.cells cs t fr))
    (hu : P.underlying ty = some d) (hd : (match d with | .struct _ | .array _ _ => true | _ => false) = true) (hi : (P.info? ty).map (·.size) = some cs.size)
    (h : wpList P ops Q rest (a.put o.dst (.agg cs)) w) : wpList P ops Q (o :: rest) a w :=
  Go.BigFrame.wpList_want hw fun _ hK => wp_load_row ty x ho g hx t cs fr d hg hu hd hi (hK _ _ h)

theorem index23 (l : List Nat) (i : Nat) (hl : l.length = 32) (hi : i < 32) (w : World) : (Instr.index 23 (.agg (ints .u8 l)) (.int .i64 (i : Int))).run Tryd.prog w = .ok (.int .u8 ((l.getD i 0 : Nat) : Int)) w := by
  have hz : (sizeOf 5).run Tryd.prog w = .ok 1 w := by simp [go_sem]
  simp [Instr.index, run_underlying Tryd.underlying23, asIntOf, hz, go_sem]
  rw [if_pos hi, ints_get _ _ _ (by omega)]
  simp
theorem strN_append (a b : List Nat) : strN a ++ strN b = strN (a ++ b) := by
  apply ba_ext
  rw [ba_append]
  simp [strN]
theorem digs_cut (k : Nat) (h : k < 16) : digs.extract k (k + 1) = strN [hd k] := by
  have : ∀ k : Fin 16, (digs.extract k.val (k.val + 1)).data.toList = (strN [hd k.val]).data.toList := by decide +kernel
  exact ba_ext (this ⟨k, h⟩)
theorem digs_run (k : Nat) (h : k < 16) (z1 z2 : Int) (e1 : z1 = (k : Int)) (e2 : z2 = (k : Int) + 1) (w : World) : (Instr.slice 9 (.string digs) (some (.int .u8 z1)) (some (.int .u8 z2)) none).run Tryd.prog w = .ok (.string (strN [hd k])) w := by
  subst e1; subst e2
  rw [← digs_cut k h]
  have hs : (digs.size : Int) = 16 := rfl
  rw [run_slice_string_if w 9 digs .u8 .u8 _ _ Tryd.underlying9]
  rw [hs, if_pos (by omega), if_pos (by omega), Int.toNat_natCast, show ((k : Int) + 1).toNat = k + 1 by omega]
theorem hexB_strN (D : List Nat) : hexB D = strN (hpre D 64) := rfl

set_option maxHeartbeats 1000000 in
theorem sums_great (p : ByteArray) (v : Value) (ss : List ByteArray) (d : List Nat) (w : World) (hp : p.size ≤ 140737488351232) (hv : Strs w v ss) (hz : ∀ s ∈ ss, s.size ≤ 140737488351232) (hK : KeysAt w) (h : isGreat ss = true ∨ 1024 < p.size) : Calls Tryd.prog 5 #[.string p, v, .agg (ints .u8 d)] w (LawEnd w) := by
  have HA := Lib.hid (fun o => alive_any (w.alloc o) (hK.below hK.1 ((Below.refl _ _).alloc (Nat.le_refl _) o)))
  have HG := Lib.hid (fun w1 (hB : Below w.heap.size w w1) => great_any v ss w1 (hv.below hB) hz)
  have HB0 := Lib.hid (fun o => (Below.refl w.heap.size w).alloc (Nat.le_refl _) o)
  obtain ⟨pp, cap, rfl⟩ := hv.shape
  clear hK hv
  generalize ss.length = n at *
  cases hg : isGreat ss with
  | true =>
    rw [hg] at HG
    clear h hg
    go_enter Tryd.func5, Tryd.ntmps5
    go_wp2_with fail
    refine (HA.out _).mono ?_
    rintro e w1 ⟨rfl, hB1⟩
    have hb1 := (HB0.out _).trans (hB1.mono (by simp))
    go_wp2_with fail
    refine (HG.out _ hb1).mono ?_
    rintro e w2 ⟨rfl, rfl⟩
    go_wp2_with fail
    go_ret
    exact ⟨rfl, hb1⟩
  | false =>
    rw [hg] at HG h
    have hI : (1024 : Int) < (p.size : Int) := by simp at h; omega
    clear h hg
    go_enter Tryd.func5, Tryd.ntmps5
    go_wp2_with fail
    refine (HA.out _).mono ?_
    rintro e w1 ⟨rfl, hB1⟩
    have hb1 := (HB0.out _).trans (hB1.mono (by simp))
    go_wp2_with fail
    refine (HG.out _ hb1).mono ?_
    rintro e w2 ⟨rfl, rfl⟩
    go_wp2_with fail
    go_ret
    exact ⟨rfl, hb1⟩

set_option maxRecDepth 100000 in
set_option maxHeartbeats 1000000 in
theorem sums_small (p : ByteArray) (v : Value) (ss : List ByteArray) (d : List Nat) (w : World) (hp : p.size ≤ 1024) (hv : Strs w v ss) (hz : ∀ s ∈ ss, s.size ≤ 140737488351232) (hd : d.length = 32) (hds : Small 256 d) (hK : KeysAt w) (hg : isGreat ss = false) : Calls Tryd.prog 5 #[.string p, v, .agg (ints .u8 d)] w (LawEnd w) := by
  obtain ⟨htot, hlen⟩ := not_great hg
  have HA := Lib.hid (fun o => alive_any (w.alloc o) (hK.below hK.1 ((Below.refl _ _).alloc (Nat.le_refl _) o)))
  have HG := Lib.hid (fun w1 (hB : Below w.heap.size w w1) => great_any v ss w1 (hv.below hB) hz)
  rw [hg] at HG
  have HB0 := Lib.hid (fun o => (Below.refl w.heap.size w).alloc (Nat.le_refl _) o)
  have hjz := joinB_size (p :: ss)
  have htp : total (p :: ss) ≤ 9216 := by simp [total]; omega
  simp only [List.length_cons] at hjz
  have HS := Lib.hid (fun w1 (hB : Below w.heap.size w w1) => sum_any p v ss w1 (hK.below hK.1 hB) (hv.below hB) (by omega) (by omega))
  have HV := Lib.hid (fun w1 (hB : Below w.heap.size w w1) => hv.below hB)
  have HJ := Lib.hid (fun u w1 (hu : Strs w1 u (p :: ss)) => refJoin_any u (p :: ss) w1 hu (by omega) (by simp; omega))
  have HCB := Lib.hid (fun w1 => conv_bytes (joinB (p :: ss)) w1 (by omega))
  have HD := Lib.hid (fun v w1 (hv : BytsN w1 v (bytesL (joinB (p :: ss)))) => dof_any v _ w1 hv (bytesL_small _) (by rw [bytesL_len]; omega))
  have Hq := Lib.hid (fun w => same24 (bytesL (joinB (p :: ss))) w)
  have HX := Lib.hid (fun w1 => hex_any d w1 hd hds)
  have HI : Hid (Arr (w.alloc (.cells (ints .u8 d) 23)) w.heap.size 23 32 .u8 d) := Lib.hid (arr_ints (heap_alloc_new w _) hd)
  have Hz23 := Lib.hid (show (Tryd.prog.info? 23).map (·.size) = some (ints .u8 d).size by rw [ints_size, hd]; kernel_rfl)
  have Hss := Lib.hid (rfl : ss.length = ss.length)
  obtain ⟨pp, cap, rfl⟩ := hv.shape
  obtain ⟨n, hn⟩ : ∃ n, n = ss.length := ⟨_, rfl⟩
  rw [← hn] at HG HS HV hlen ⊢
  have Hn := Lib.hid hn
  have Hd := Lib.hid hd
  have Hds := Lib.hid hds
  clear hK hv hz hg hjz htp hn hd hds Hss htot
  have hI : ¬ (1024 : Int) < (p.size : Int) := by omega
  generalize joinB (p :: ss) = j at *
  go_enter Tryd.func5, Tryd.ntmps5
  go_wp2_with fail
  refine (HA.out _).mono ?_
  rintro e w1 ⟨rfl, hB1⟩
  have hb1 := (HB0.out _).trans (hB1.mono (by simp))
  have HI1 := Lib.hid (HI.out.below hB1)
  clear hB1 HI
  go_wp2_with fail
  refine (HG.out _ hb1).mono ?_
  rintro e w2 ⟨rfl, rfl⟩
  have hw1 := HI1.out.lt
  go_wp2_with (first
    | (at_builtin; refine wpList_append_strs rfl (.tmp 21) (.tmp 22) rfl (w.heap.size + 1) _ [p] rfl (own_text w1 (w.heap.size + 1) p hw1) _ ss (HV.out _ (hb1.alloc hb1.size _)) rfl (by have := Hn.out; simp; omega) (by simp; omega) ?_; intro v2 w2 hown2 hgrow2; have hb2 := (hb1.alloc hb1.size _).grown hgrow2 (by simp; omega) (fun k hk => by have := ((own_text w1 (w.heap.size + 1) p hw1).lt k hk).1; omega); have HI2 := Lib.hid ((HI1.out.below ((Below.refl _ _).alloc (Nat.le_refl _) _)).heap (hgrow2.block w.heap.size (by simp; omega) (fun e => by have := ((own_text w1 (w.heap.size + 1) p hw1).lt w.heap.size e.symm).1; omega))); have HS2 := Lib.hid (Strs.ofOwn hown2); have HL2 := Lib.hid (HI2.out.whole Hd.out); clear hown2 hgrow2)
    | (refine wpList_load_row rfl 23 _ rfl w.heap.size rfl 23 (ints .u8 d) (0, 0) _ HL2.out Tryd.underlying23 rfl Hz23.out ?_))
  have hb2s := hb2.size
  have Hb2 := Lib.hid hb2
  clear hb1 hb2 HI1
  go_loopg [8, 25] 32 (fun g sv iv wr => ∃ i : Nat, i + g = 32 ∧ iv = .int .i64 i ∧ sv = .string (strN (hpre d (2 * i))) ∧ Below w2.heap.size w2 wr)
  case atStart => exact ⟨0, by omega, rfl, rfl, Below.refl _ _⟩
  case round =>
    obtain ⟨i, hig, rfl, rfl, hB⟩ := hrel
    by_cases hlt : i < 32
    · have hltI : (i : Int) < 32 := by omega
      have hix := index23 d i Hd.out hlt wr
      have hc := Hds.out i
      have hb0 := hbyte0 d i
      have hb1 := hbyte1 d i
      obtain ⟨c, hce⟩ : ∃ c, d.getD i 0 = c := ⟨_, rfl⟩
      rw [hce] at hix hc hb0 hb1
      have Hnx := Lib.hid (show hpre d (2 * (i + 1)) = hpre d (2 * i) ++ [hd (c / 16)] ++ [hd (c % 16)] by rw [show 2 * (i + 1) = 2 * i + 1 + 1 by omega, hpre_succ, hpre_succ, hb0, hb1])
      have hz := hpre_len d (2 * i)
      have hsz := strN_size (hpre d (2 * i))
      clear hce hb0 hb1
      generalize hpre d (2 * i) = L at *
      have d1 : ∀ w1 : World, (Instr.slice 9 (.string ⟨#[48, 49, 50, 51, 52, 53, 54, 55, 56, 57, 97, 98, 99, 100, 101, 102]⟩) (some (.int .u8 ((c : Int) / 16))) (some (.int .u8 ((c : Int) / 16 + 1))) none).run Tryd.prog w1 = .ok (.string (strN [hd (c / 16)])) w1 := fun w1 => digs_run (c / 16) (by omega) _ _ (by omega) (by omega) w1
      have d2 : ∀ w1 : World, (Instr.slice 9 (.string ⟨#[48, 49, 50, 51, 52, 53, 54, 55, 56, 57, 97, 98, 99, 100, 101, 102]⟩) (some (.int .u8 ((c : Int) % 16))) (some (.int .u8 ((c : Int) % 16 + 1))) none).run Tryd.prog w1 = .ok (.string (strN [hd (c % 16)])) w1 := fun w1 => digs_run (c % 16) (by omega) _ _ (by omega) (by omega) w1
      have s1 : (strN [hd (c / 16)]).size = 1 := strN_size _
      have s2 : (strN [hd (c % 16)]).size = 1 := strN_size _
      have hsb : (strN L).size ≤ 64 := by omega
      have s1b : (strN [hd (c / 16)]).size ≤ 1 := by omega
      have s2b : (strN [hd (c % 16)]).size ≤ 1 := by omega
      have Hap := Lib.hid (show strN L ++ strN [hd (c / 16)] ++ strN [hd (c % 16)] = strN (hpre d (2 * (i + 1))) by rw [Hnx.out, strN_append, strN_append])
      have s3b : (strN L ++ strN [hd (c / 16)]).size ≤ 65 := by rw [ByteArray.size_append]; omega
      clear s1 s2 hsz hz
      generalize strN [hd (c / 16)] = x1 at *
      generalize strN [hd (c % 16)] = x2 at *
      generalize strN L = sL at *
      go_wp2_with fail
      refine wp_region_class (Below w2.heap.size w2) (by kernel_rfl) (by kernel_rfl) hB.drew ?_
      repeat (go_big_quiet_step (first | (intro _; rfl)))
      refine wpQuiet_nil ?_
      intro wq hBq
      go_wp2_with fail
      go_roundg (gk - 1)
      case measure => omega
      case rel => exact ⟨i + 1, by omega, by go_num, by rw [Hap.out], hBq⟩
    · obtain rfl : i = 32 := by omega
      have hnl : ¬ ((32 : Nat) : Int) < 32 := by omega
      have hb3 := Hb2.out.trans (hB.mono hb2s)
      have hst := HS2.out.below hB
      obtain ⟨p2, c2, rfl⟩ := hst.shape
      have Hst := Lib.hid hst
      have HI3 := Lib.hid (HI2.out.below hB)
      have HHx := Lib.hid (hexB_strN d)
      rw [show 2 * 32 = 64 by rfl, ← HHx.out]
      clear hst hB HI2 HS2 HL2 Hb2 hb2s hw1
      generalize hexB d = x at *
      go_wp2_with fail
      refine (HS.out _ hb3).mono ?_
      rintro e w4 ⟨rfl, hB4⟩
      have hb4 := hb3.trans (hB4.mono hb3.size)
      have hst := Hst.out.below hB4
      have HI4 := Lib.hid (HI3.out.below hB4)
      clear hb3 hB4
      go_wp2_with fail
      refine (HJ.out _ w4 hst).mono ?_
      rintro e w5 ⟨rfl, hB5⟩
      have hb5 := hb4.trans (hB5.mono hb4.size)
      have HI5 := Lib.hid (HI4.out.below hB5)
      obtain ⟨v6, w6, hcv, hv6, hB6⟩ := HCB.out w5
      have hb6 := hb5.trans (hB6.mono hb5.size)
      have HI6 := Lib.hid (HI5.out.below hB6)
      clear hb4 hst hB5 hb5 hB6 HI3 HI4 HI5 Hst
      go_wp2_with fail
      refine (HD.out v6 w6 hv6).mono ?_
      rintro e w7 ⟨rfl, hB7⟩
      have hb7 := hb6.trans (hB7.mono hb6.size)
      have hl7 := (HI6.out.below hB7).whole Hd.out
      have HL7 := Lib.hid hl7
      clear hl7 hb6 hB7 hv6 HI6 hcv
      have hq := Hq.out
      go_wp2_with (refine wpList_load_row_g rfl 23 _ rfl w.heap.size rfl 23 (ints .u8 d) (0, 0) _ HL7.out Tryd.underlying23 rfl Hz23.out ?_)
      clear hq
      refine (HX.out w7).mono ?_
      rintro e w8 ⟨rfl, hB8⟩
      have hb8 := hb7.trans (hB8.mono hb7.size)
      clear hb7 hB8
      go_wp2_with fail
      go_ret
      exact ⟨rfl, hb8⟩

theorem sums_walk (p : ByteArray) (v : Value) (ss : List ByteArray) (d : List Nat) (w : World) (hp : p.size ≤ 140737488351232) (hv : Strs w v ss) (hz : ∀ s ∈ ss, s.size ≤ 140737488351232) (hd : d.length = 32) (hds : Small 256 d) (hK : KeysAt w) : Calls Tryd.prog 5 #[.string p, v, .agg (ints .u8 d)] w (LawEnd w) := by
  by_cases h : isGreat ss = true ∨ 1024 < p.size
  · exact sums_great p v ss d w hp hv hz hK h
  · exact sums_small p v ss d w (by omega) hv hz hd hds hK (by cases hg : isGreat ss with | true => exact absurd (.inl hg) h | false => rfl)
end Go.Proofs.YtbenegkhekofmaaDoor
