/- The statement KvlogApart. -/
import Derived.Test.YtbdlmdmbaajcmaaVh
import Derived.Test.YtbdlmdmbaajcmaaVa
namespace Go.Proofs.Ytbdlmdmbaajcmaa
set_option linter.unusedVariables false
set_option linter.unusedSimpArgs false
open Go.ChangeShapes Go.WideShapes Go.ChangeAt Go.RowKit

def sN : ByteArray := ⟨#[115]⟩
def tN : ByteArray := ⟨#[116]⟩
theorem sN_good : goodN sN = true := by decide
theorem tN_good : goodN tN = true := by decide
theorem sN_new : goodN (sN ++ wNew) = true := by
  unfold goodN
  rw [ByteArray.size_append]
  decide
theorem tN_new : goodN (tN ++ wNew) = true := by
  unfold goodN
  rw [ByteArray.size_append]
  decide
theorem tot_take (S : List Cl) (j : Nat) (h : totC S ≤ 4096) : totC (S.take j) ≤ 4096 := by
  have : totC (S.take j) + totC (S.drop j) = totC S := by
    conv => rhs; rw [← List.take_append_drop j S]
    unfold totC
    rw [List.map_append, List.sum_append]
  omega
theorem tot_take_le (S : List Cl) (j : Nat) : totC (S.take j) ≤ totC (S.take (j + 1)) := by
  rw [List.take_add_one]
  unfold totC
  rw [List.map_append, List.sum_append]
  omega
theorem start_s {w0 w : World} {d : Nat} (dv : DV (fun k => w0.heap.size ≤ k ∧ k < w.heap.size) d (newH 1048576) [] w) (hB : w0.heap.size ≤ w.heap.size) :
    Calls Try.prog 12 #[.pointer (some ⟨d, 0, none⟩), .string sN, .int .i64 20] w fun e w' => ∃ b, e = .returned (.tuple #[.pointer (some ⟨b, 0, none⟩), .int .i64 0]) ∧ Duo w0.heap.size b d sN 20 (newH 1048576) [] [] w' ∧ Below w0.heap.size w w' := by
  refine (open_any dv (fun k hk => hk.2) (new_ok 1048576 (by decide) (by decide)) (by omega) sN 20 (by decide) (by decide) (by decide)).mono ?_
  intro e w' h
  rw [open_fresh (new_lit 1048576 (by decide) (by decide)) sN_good sN_new] at h
  rcases h with ⟨_, b, TD, TS, he, kv, q1, q2, q3⟩ | ⟨h, _⟩
  · refine ⟨b, he, ⟨TD, TS, kv, fun k hk => ?_, fun k hk => ?_⟩, q3.below (fun k hk => hk.1) hB⟩
    · rcases q1 k hk with hk | hk
      · exact hk.1
      · omega
    · have := q2 k hk; omega
  · exact absurd rfl h
/-- Both stores are open, and both of the document's are made. -/
theorem start_t {B b d : Nat} {w : World} (k : Duo B b d sN 20 (newH 1048576) [] [] w) (hB : B ≤ w.heap.size) :
    Calls Try.prog 12 #[.pointer (some ⟨d, 0, none⟩), .string tN, .int .i64 20] w fun e w' => ∃ b2, e = .returned (.tuple #[.pointer (some ⟨b2, 0, none⟩), .int .i64 0]) ∧ Below B w w' ∧ Quad B d (newH 1048576) [] ⟨b, sN, [], w'.heap.size, 0⟩ ⟨b2, tN, [], w'.heap.size + 1, 0⟩ ((w'.alloc (.cells (rsA 20 (.slice none 0 0) 0) 34)).alloc (.cells (rsA 20 (.slice none 0 0) 0) 34)) := by
  obtain ⟨TD, TS, k1, k2, k3⟩ := k.s
  refine (open_any k1.dv k1.ld (new_ok 1048576 (by decide) (by decide)) (by omega) tN 20 (by decide) (by decide) (by decide)).mono ?_
  intro e w' h
  rw [open_fresh (new_lit 1048576 (by decide) (by decide)) tN_good tN_new] at h
  rcases h with ⟨_, b2, TD2, TS2, he, kv, q1, q2, q3⟩ | ⟨h, _⟩
  · have hs := q3.size
    have m1 := (Below.refl w'.heap.size w').alloc (Nat.le_refl _) (.cells (rsA 20 (.slice none 0 0) 0) 34)
    have n1 := heap_alloc_new w' (.cells (rsA 20 (.slice none 0 0) 0) 34)
    have s1 : (w'.alloc (.cells (rsA 20 (.slice none 0 0) 0) 34)).heap.size = w'.heap.size + 1 := by simp
    generalize w'.alloc (.cells (rsA 20 (.slice none 0 0) 0) 34) = wa at *
    have m2 := (Below.refl wa.heap.size wa).alloc (Nat.le_refl _) (.cells (rsA 20 (.slice none 0 0) 0) 34)
    have n2 := heap_alloc_new wa (.cells (rsA 20 (.slice none 0 0) 0) 34)
    have s2 : (wa.alloc (.cells (rsA 20 (.slice none 0 0) 0) 34)).heap.size = wa.heap.size + 1 := by simp
    generalize wa.alloc (.cells (rsA 20 (.slice none 0 0) 0) 34) = wb at *
    have m3 := m1.trans (m2.mono m1.size)
    have n3 := (m2.block _ (lt_of_block n1)).trans n1
    rw [s1] at n2
    have kept : St TS b d sN 20 [] w' := k1.st.kept q3 (fun q hq hd => k1.dj q hd hq)
    refine ⟨b2, he, q3.below k2 hB, TD2, TS, TS2, fun q => q = w'.heap.size, fun q => q = w'.heap.size + 1, kv.dv.below m3, kept.below m3, kv.st.below m3, ⟨⟨_, n3, w'.heap.size, ⟨rfl, .inl ⟨rfl, rfl⟩⟩, fun g hg => by cases hg⟩, rfl⟩, ⟨⟨_, n2, w'.heap.size, ⟨rfl, .inl ⟨rfl, rfl⟩⟩, fun g hg => by cases hg⟩, rfl⟩, fun q hq => ?_, fun q hq => ?_, fun q hq => ?_, fun q hq h1 => by omega, fun q hq => ?_⟩
    · have hlt := kv.ld q hq
      refine ⟨fun h1 => ?_, kv.dj q hq, fun h1 => by omega, fun h1 => by omega⟩
      rcases q1 q hq with h2 | h2
      · exact k1.dj q h2 h1
      · have := k1.ls q h1; omega
    · have hlt := k1.ls q hq
      exact ⟨fun h1 => by have := q2 q h1; omega, fun h1 => by omega, fun h1 => by omega⟩
    · have hlt := kv.ls q hq
      exact ⟨fun h1 => by omega, fun h1 => by omega⟩
    · rcases hq with hq | hq | hq | hq | hq
      · have hlt := kv.ld q hq
        refine ⟨?_, by omega⟩
        rcases q1 q hq with h2 | h2
        · exact k2 q h2
        · omega
      · have hlt := k1.ls q hq
        exact ⟨k3 q hq, by omega⟩
      · have hlt := kv.ls q hq
        exact ⟨by have := q2 q hq; omega, by omega⟩
      · omega
      · omega
  · exact absurd rfl h
set_option maxRecDepth 100000 in
set_option maxHeartbeats 8000000 in
theorem apart_walk (v1 v2 : Value) (S1 S2 : List Cl) (w : World) (hS1 : LAt 7 clV w v1 S1) (zS1 : ∀ c ∈ S1, c.key.size ≤ 140737488351232 ∧ c.val.size ≤ 140737488351232) (lS1 : S1.length ≤ 9223372036854775807) (hS2 : LAt 7 clV w v2 S2) (zS2 : ∀ c ∈ S2, c.key.size ≤ 140737488351232 ∧ c.val.size ≤ 140737488351232) (lS2 : S2.length ≤ 9223372036854775807) :
    Calls Try.prog 7 #[v1, v2] w fun e w' => e = .returned (.bool true) ∧ Below w.heap.size w w' := by
  have HA := Lib.hid (alive_any w)
  have HG1 := Lib.hid (fun w1 (hB : Below w.heap.size w w1) => great_any S1 v1 w1 (hS1.below hB) lS1 zS1)
  have HG2 := Lib.hid (fun w1 (hB : Below w.heap.size w w1) => great_any S2 v2 w1 (hS2.below hB) lS2 zS2)
  obtain ⟨p1, c1, rfl, hp1⟩ := gen_shape hS1
  obtain ⟨p2, c2, rfl, hp2⟩ := gen_shape hS2
  have Hq1 := Lib.hid hS1
  have Hq2 := Lib.hid hS2
  clear hS1 zS1 hS2 zS2
  go_enter Try.func7, Try.ntmps7
  go_wp2_with fail
  refine HA.out.mono ?_
  rintro e w1 ⟨rfl, hB⟩
  have HGa := Lib.hid (HG1.out w1 hB)
  have HB := Lib.hid hB
  clear hB HG1 HA
  go_wp2_with fail
  refine HGa.out.mono ?_
  rintro e w2 ⟨r1, rfl, hr1, hB⟩
  have HB2 := Lib.hid (HB.out.trans (hB.mono HB.out.size))
  have HGb := Lib.hid (HG2.out w2 HB2.out)
  clear hB HGa HB HG2
  cases r1 with
  | true =>
    go_wp2_with fail
    go_ret
    exact ⟨rfl, HB2.out⟩
  | false =>
  obtain ⟨h601, h40961⟩ := hr1 rfl
  have HTo1 := Lib.hid h40961
  have HTot1 := Lib.hid (fun c hc => show c.key.size + c.val.size ≤ 4096 from Nat.le_trans (tot_mem S1 c hc) h40961)
  clear hr1 h40961
  go_wp2_with fail
  refine HGb.out.mono ?_
  rintro e w3 ⟨r2, rfl, hr2, hB⟩
  have HB4 := Lib.hid (HB2.out.trans (hB.mono HB2.out.size))
  clear hB HGb HB2
  cases r2 with
  | true =>
    go_wp2_with fail
    go_ret
    exact ⟨rfl, HB4.out⟩
  | false =>
  obtain ⟨h602, h40962⟩ := hr2 rfl
  have HTo2 := Lib.hid h40962
  have HTot2 := Lib.hid (fun c hc => show c.key.size + c.val.size ≤ 4096 from Nat.le_trans (tot_mem S2 c hc) h40962)
  have HN := Lib.hid (cNew 1048576 w3)
  have hws := HB4.out.size
  clear hr2 h40962
  go_wp2_with fail
  refine HN.out.mono ?_
  rintro e w4 ⟨rfl, hd, hB⟩
  have HB5 := Lib.hid hB
  have HO := Lib.hid (start_s hd hB.size)
  unfold sN at HO
  clear hd hB HN
  go_wp2_with fail
  refine HO.out.mono ?_
  rintro e w5 ⟨b1, rfl, hs, hB⟩
  have HB6 := Lib.hid (HB5.out.trans hB)
  have HO2 := Lib.hid (start_t hs HB6.out.size)
  unfold tN at HO2
  clear hs hB HO HB5
  generalize w3.heap.size + 1 = d at *
  go_wp2_with fail
  refine HO2.out.mono ?_
  rintro e w6 ⟨b2, rfl, hB, hq⟩
  have hb6 := HB6.out.size
  have HB7 := Lib.hid (HB6.out.trans hB)
  have hb7 := HB7.out.size
  have m1 := (Below.refl w6.heap.size w6).alloc (Nat.le_refl _) (.cells (rsA 20 (.slice none 0 0) 0) 34)
  have m2 := m1.alloc m1.size (.cells (rsA 20 (.slice none 0 0) 0) 34)
  have s1 : (w6.alloc (.cells (rsA 20 (.slice none 0 0) 0) 34)).heap.size = w6.heap.size + 1 := by simp
  have HB8 := Lib.hid (HB7.out.trans (m2.mono hb7))
  have HQ0 := Lib.hid hq
  have HLo0 := Lib.hid (show Lot 0 0 (newH 1048576) [] from ⟨new_lit 1048576 (by decide) (by decide), new_ok 1048576 (by decide) (by decide), by simp [totA]⟩)
  clear hq hB HO2 HB6 m1 m2
  unfold rsA at HB8 HQ0 s1
  go_upto_region 11 with fail
  try rw [s1]
  generalize (w6.alloc (.cells #[.int .i64 20, .slice none 0 0, .int .i64 0] 34)).alloc (.cells #[.int .i64 20, .slice none 0 0, .int .i64 0] 34) = w7 at *
  obtain ⟨cc1, hcc1⟩ : ∃ x, x = w6.heap.size := ⟨_, rfl⟩
  obtain ⟨cc2, hcc2⟩ : ∃ x, x = w6.heap.size + 1 := ⟨_, rfl⟩
  rw [← hcc2] at HQ0
  try rw [← hcc2]
  rw [← hcc1] at HQ0
  try rw [← hcc1]
  have Hcc1 := Lib.hid hcc1
  have Hcc2 := Lib.hid hcc2
  clear hcc1 hcc2 s1 hb6 hb7
  go_wp2_with fail
  go_loopg [12, 13, 14, 15, 16] (max S1.length S2.length) (fun g iv _ _ _ _ wr => ∃ (j : Nat) (L1 : List En) (z1 : Int) (L2 : List En) (z2 : Int) (h : Hd) (A : List Ab), j + g = max S1.length S2.length ∧ iv = .int .i64 j ∧ Hid (Quad w3.heap.size d h A ⟨b1, sN, L1, cc1, z1⟩ ⟨b2, tN, L2, cc2, z2⟩ wr) ∧ Hid (Lot (6 * j) (16542 * j) h A) ∧ Hid (Bd j L1) ∧ Hid ((L1.length : Int) ≤ 20) ∧ Hid (sumL L1 ≤ totC (S1.take j)) ∧ Hid (0 ≤ z1 ∧ z1 ≤ 172935 * (j : Int)) ∧ Hid (Bd j L2) ∧ Hid ((L2.length : Int) ≤ 20) ∧ Hid (sumL L2 ≤ totC (S2.take j)) ∧ Hid (0 ≤ z2 ∧ z2 ≤ 172935 * (j : Int)) ∧ Hid (Below w3.heap.size w3 wr))
  case atStart => exact ⟨0, [], 0, [], 0, newH 1048576, [], by omega, rfl, HQ0, HLo0, Lib.hid ⟨by simp, by simp, by simp⟩, Lib.hid (by simp), Lib.hid (by simp [sumL]), Lib.hid (by simp), Lib.hid ⟨by simp, by simp, by simp⟩, Lib.hid (by simp), Lib.hid (by simp [sumL]), Lib.hid (by simp), HB8⟩
  case round =>
    obtain ⟨j, L1, z1, L2, z2, h, A, hjg, rfl, HQ, HLo, HBd1, HL1, HSu1, HZ1, HBd2, HL2, HSu2, HZ2, HBr⟩ := hrel
    have HBw := Lib.hid (show Below w.heap.size w wr from HB4.out.trans (HBr.out.mono hws))
    by_cases hj1 : j < S1.length
    · have hj1I : (j : Int) < (S1.length : Int) := by omega
      have hd1 : decide ((j : Int) < (S1.length : Int)) = true := decide_eq_true hj1I
      by_cases hj2 : j < S2.length
      · have hj2I : (j : Int) < (S2.length : Int) := by omega
        obtain ⟨g1, off1, rfl⟩ := hp1 (by omega)
        obtain ⟨x, hx⟩ : ∃ x, x = S1[j] := ⟨_, rfl⟩
        have hxi : S1[j]? = some x := by rw [List.getElem?_eq_getElem hj1, hx]
        obtain ⟨hg, q0, q1, q2, q3, q4, q5, q6⟩ := Hq1.out.cellsC hxi
        have e0 := (HBw.out.cell (p := ⟨g1, off1 + j * 7, none⟩) hg).trans q0
        have e1 := (HBw.out.cell (p := ⟨g1, off1 + j * 7 + 1, none⟩) hg).trans q1
        have e2 := (HBw.out.cell (p := ⟨g1, off1 + j * 7 + 2, none⟩) hg).trans q2
        have e3 := (HBw.out.cell (p := ⟨g1, off1 + j * 7 + 3, none⟩) hg).trans q3
        have e4 := (HBw.out.cell (p := ⟨g1, off1 + j * 7 + 4, none⟩) hg).trans q4
        have e5 := (HBw.out.cell (p := ⟨g1, off1 + j * 7 + 5, none⟩) hg).trans q5
        have e6 := (HBw.out.cell (p := ⟨g1, off1 + j * 7 + 6, none⟩) hg).trans q6
        have hxz : x.key.size + x.val.size ≤ 4096 := HTot1.out x (by rw [hx]; exact List.getElem_mem hj1)
        have HTk := Lib.hid (show totC (S1.take (j + 1)) = totC (S1.take j) + (x.key.size + x.val.size) from by rw [List.take_add_one, hxi]; exact totC_snoc _ _)
        clear q0 q1 q2 q3 q4 q5 q6 hx hxi
        have hbs1 := HBr.out.size
        have HDo := Lib.hid ((HQ.out).does hbs1 HLo.out (by omega) sN_good sN_new (HBd1.out.mono (by omega)) HL1.out (Nat.le_trans HSu1.out (tot_take S1 j HTo1.out)) (show 0 ≤ z1 ∧ z1 ≤ 1099511627776 from by have := HZ1.out; omega) x hxz (by omega))
        have HBd1n := Lib.hid (ref_bd HBd1.out 20 z1 1048576 x (by omega) (by omega))
        have HL1n := Lib.hid (ref_len (fun e he => (HBd1.out.s e he).1) 20 z1 1048576 x (by decide) HL1.out (by omega) (by omega))
        have HSu1n := Lib.hid (show sumL (refOut L1 20 z1 1048576 x).2.1 ≤ totC (S1.take (j + 1)) from by
          have h1 := ref_sum (fun e he => (HBd1.out.s e he).1) 20 z1 1048576 x (by omega) (by omega)
          have h2 := HSu1.out
          rw [HTk.out]; omega)
        have HZ1n := Lib.hid (show 0 ≤ (refOut L1 20 z1 1048576 x).2.2 ∧ (refOut L1 20 z1 1048576 x).2.2 ≤ 172935 * ((j + 1 : Nat) : Int) from by
          have h1 := ref_z HBd1.out (by have := HL1.out; omega) 20 z1 1048576 x (by omega) (by omega) HZ1.out.1
          have h2 := HZ1.out.2
          omega)
        generalize refOut L1 20 z1 1048576 x = o1 at *
        obtain ⟨y1, M1, u1⟩ := o1
        obtain ⟨kd, key, val, nn, fu, kp, tn⟩ := x
        unfold cA clA at HDo
        try dsimp only at e0 e1 e2 e3 e4 e5 e6 HDo HBd1n HL1n HSu1n HZ1n
        clear HTk hxz hg
        go_wp2_with fail
        refine HDo.out.mono ?_
        rintro e wx ⟨er1, rfl, ⟨h1', A1', hq, hlo⟩, hB⟩
        try dsimp only at hq
        have HQ1n := Lib.hid (hq)
        have HLo1n := Lib.hid hlo
        have HBr1n := Lib.hid (HBr.out.trans hB)
        clear hq hlo hB HDo e0 e1 e2 e3 e4 e5 e6
        have HBw2 := Lib.hid (show Below w.heap.size w wx from HB4.out.trans (HBr1n.out.mono hws))
        obtain ⟨g2, off2, rfl⟩ := hp2 (by omega)
        obtain ⟨x, hx⟩ : ∃ x, x = S2[j] := ⟨_, rfl⟩
        have hxi : S2[j]? = some x := by rw [List.getElem?_eq_getElem hj2, hx]
        obtain ⟨hg, q0, q1, q2, q3, q4, q5, q6⟩ := Hq2.out.cellsC hxi
        have e0 := (HBw2.out.cell (p := ⟨g2, off2 + j * 7, none⟩) hg).trans q0
        have e1 := (HBw2.out.cell (p := ⟨g2, off2 + j * 7 + 1, none⟩) hg).trans q1
        have e2 := (HBw2.out.cell (p := ⟨g2, off2 + j * 7 + 2, none⟩) hg).trans q2
        have e3 := (HBw2.out.cell (p := ⟨g2, off2 + j * 7 + 3, none⟩) hg).trans q3
        have e4 := (HBw2.out.cell (p := ⟨g2, off2 + j * 7 + 4, none⟩) hg).trans q4
        have e5 := (HBw2.out.cell (p := ⟨g2, off2 + j * 7 + 5, none⟩) hg).trans q5
        have e6 := (HBw2.out.cell (p := ⟨g2, off2 + j * 7 + 6, none⟩) hg).trans q6
        have hxz : x.key.size + x.val.size ≤ 4096 := HTot2.out x (by rw [hx]; exact List.getElem_mem hj2)
        have HTk := Lib.hid (show totC (S2.take (j + 1)) = totC (S2.take j) + (x.key.size + x.val.size) from by rw [List.take_add_one, hxi]; exact totC_snoc _ _)
        clear q0 q1 q2 q3 q4 q5 q6 hx hxi
        have hbs2 := HBr1n.out.size
        have HDo := Lib.hid ((HQ1n.out.swap).does hbs2 HLo1n.out (by omega) tN_good tN_new (HBd2.out.mono (by omega)) HL2.out (Nat.le_trans HSu2.out (tot_take S2 j HTo2.out)) (show 0 ≤ z2 ∧ z2 ≤ 1099511627776 from by have := HZ2.out; omega) x hxz (by omega))
        have HBd2n := Lib.hid (ref_bd HBd2.out 20 z2 1048576 x (by omega) (by omega))
        have HL2n := Lib.hid (ref_len (fun e he => (HBd2.out.s e he).1) 20 z2 1048576 x (by decide) HL2.out (by omega) (by omega))
        have HSu2n := Lib.hid (show sumL (refOut L2 20 z2 1048576 x).2.1 ≤ totC (S2.take (j + 1)) from by
          have h1 := ref_sum (fun e he => (HBd2.out.s e he).1) 20 z2 1048576 x (by omega) (by omega)
          have h2 := HSu2.out
          rw [HTk.out]; omega)
        have HZ2n := Lib.hid (show 0 ≤ (refOut L2 20 z2 1048576 x).2.2 ∧ (refOut L2 20 z2 1048576 x).2.2 ≤ 172935 * ((j + 1 : Nat) : Int) from by
          have h1 := ref_z HBd2.out (by have := HL2.out; omega) 20 z2 1048576 x (by omega) (by omega) HZ2.out.1
          have h2 := HZ2.out.2
          omega)
        generalize refOut L2 20 z2 1048576 x = o2 at *
        obtain ⟨y2, M2, u2⟩ := o2
        obtain ⟨kd, key, val, nn, fu, kp, tn⟩ := x
        unfold cA clA at HDo
        try dsimp only at e0 e1 e2 e3 e4 e5 e6 HDo HBd2n HL2n HSu2n HZ2n
        clear HTk hxz hg
        go_wp2_with fail
        refine HDo.out.mono ?_
        rintro e wy ⟨er2, rfl, ⟨h2', A2', hq, hlo⟩, hB⟩
        try dsimp only at hq
        have HQ2n := Lib.hid (hq.swap)
        have HLo2n := Lib.hid hlo
        have HBr2n := Lib.hid (HBr1n.out.trans hB)
        clear hq hlo hB HDo e0 e1 e2 e3 e4 e5 e6
        go_wp2_with fail
        go_roundg (gk - 1)
        case measure => omega
        case rel => exact ⟨j + 1, M1, u1, M2, u2, h2', A2', by omega, by go_num, Lib.hid HQ2n.out, Lib.hid (HLo2n.out.more (by omega) (by omega)), HBd1n, HL1n, HSu1n, HZ1n, HBd2n, HL2n, HSu2n, HZ2n, HBr2n⟩
      · have hj2I : ¬ (j : Int) < (S2.length : Int) := by omega
        obtain ⟨g1, off1, rfl⟩ := hp1 (by omega)
        obtain ⟨x, hx⟩ : ∃ x, x = S1[j] := ⟨_, rfl⟩
        have hxi : S1[j]? = some x := by rw [List.getElem?_eq_getElem hj1, hx]
        obtain ⟨hg, q0, q1, q2, q3, q4, q5, q6⟩ := Hq1.out.cellsC hxi
        have e0 := (HBw.out.cell (p := ⟨g1, off1 + j * 7, none⟩) hg).trans q0
        have e1 := (HBw.out.cell (p := ⟨g1, off1 + j * 7 + 1, none⟩) hg).trans q1
        have e2 := (HBw.out.cell (p := ⟨g1, off1 + j * 7 + 2, none⟩) hg).trans q2
        have e3 := (HBw.out.cell (p := ⟨g1, off1 + j * 7 + 3, none⟩) hg).trans q3
        have e4 := (HBw.out.cell (p := ⟨g1, off1 + j * 7 + 4, none⟩) hg).trans q4
        have e5 := (HBw.out.cell (p := ⟨g1, off1 + j * 7 + 5, none⟩) hg).trans q5
        have e6 := (HBw.out.cell (p := ⟨g1, off1 + j * 7 + 6, none⟩) hg).trans q6
        have hxz : x.key.size + x.val.size ≤ 4096 := HTot1.out x (by rw [hx]; exact List.getElem_mem hj1)
        have HTk := Lib.hid (show totC (S1.take (j + 1)) = totC (S1.take j) + (x.key.size + x.val.size) from by rw [List.take_add_one, hxi]; exact totC_snoc _ _)
        clear q0 q1 q2 q3 q4 q5 q6 hx hxi
        have hbs1 := HBr.out.size
        have HDo := Lib.hid ((HQ.out).does hbs1 HLo.out (by omega) sN_good sN_new (HBd1.out.mono (by omega)) HL1.out (Nat.le_trans HSu1.out (tot_take S1 j HTo1.out)) (show 0 ≤ z1 ∧ z1 ≤ 1099511627776 from by have := HZ1.out; omega) x hxz (by omega))
        have HBd1n := Lib.hid (ref_bd HBd1.out 20 z1 1048576 x (by omega) (by omega))
        have HL1n := Lib.hid (ref_len (fun e he => (HBd1.out.s e he).1) 20 z1 1048576 x (by decide) HL1.out (by omega) (by omega))
        have HSu1n := Lib.hid (show sumL (refOut L1 20 z1 1048576 x).2.1 ≤ totC (S1.take (j + 1)) from by
          have h1 := ref_sum (fun e he => (HBd1.out.s e he).1) 20 z1 1048576 x (by omega) (by omega)
          have h2 := HSu1.out
          rw [HTk.out]; omega)
        have HZ1n := Lib.hid (show 0 ≤ (refOut L1 20 z1 1048576 x).2.2 ∧ (refOut L1 20 z1 1048576 x).2.2 ≤ 172935 * ((j + 1 : Nat) : Int) from by
          have h1 := ref_z HBd1.out (by have := HL1.out; omega) 20 z1 1048576 x (by omega) (by omega) HZ1.out.1
          have h2 := HZ1.out.2
          omega)
        generalize refOut L1 20 z1 1048576 x = o1 at *
        obtain ⟨y1, M1, u1⟩ := o1
        obtain ⟨kd, key, val, nn, fu, kp, tn⟩ := x
        unfold cA clA at HDo
        try dsimp only at e0 e1 e2 e3 e4 e5 e6 HDo HBd1n HL1n HSu1n HZ1n
        clear HTk hxz hg
        go_wp2_with fail
        refine HDo.out.mono ?_
        rintro e wx ⟨er1, rfl, ⟨h1', A1', hq, hlo⟩, hB⟩
        try dsimp only at hq
        have HQ1n := Lib.hid (hq)
        have HLo1n := Lib.hid hlo
        have HBr1n := Lib.hid (HBr.out.trans hB)
        clear hq hlo hB HDo e0 e1 e2 e3 e4 e5 e6
        have HBd2n := Lib.hid (HBd2.out.mono (Nat.le_succ j))
        have HL2n := HL2
        have HSu2n := Lib.hid (Nat.le_trans HSu2.out (tot_take_le S2 j))
        have HZ2n := Lib.hid (show 0 ≤ z2 ∧ z2 ≤ 172935 * ((j + 1 : Nat) : Int) from by have := HZ2.out; omega)
        go_wp2_with fail
        go_roundg (gk - 1)
        case measure => omega
        case rel => exact ⟨j + 1, M1, u1, L2, z2, h1', A1', by omega, by go_num, Lib.hid HQ1n.out, Lib.hid (HLo1n.out.more (by omega) (by omega)), HBd1n, HL1n, HSu1n, HZ1n, HBd2n, HL2n, HSu2n, HZ2n, HBr1n⟩
    · have hj1I : ¬ (j : Int) < (S1.length : Int) := by omega
      by_cases hj2 : j < S2.length
      · have hj2I : (j : Int) < (S2.length : Int) := by omega
        obtain ⟨g2, off2, rfl⟩ := hp2 (by omega)
        obtain ⟨x, hx⟩ : ∃ x, x = S2[j] := ⟨_, rfl⟩
        have hxi : S2[j]? = some x := by rw [List.getElem?_eq_getElem hj2, hx]
        obtain ⟨hg, q0, q1, q2, q3, q4, q5, q6⟩ := Hq2.out.cellsC hxi
        have e0 := (HBw.out.cell (p := ⟨g2, off2 + j * 7, none⟩) hg).trans q0
        have e1 := (HBw.out.cell (p := ⟨g2, off2 + j * 7 + 1, none⟩) hg).trans q1
        have e2 := (HBw.out.cell (p := ⟨g2, off2 + j * 7 + 2, none⟩) hg).trans q2
        have e3 := (HBw.out.cell (p := ⟨g2, off2 + j * 7 + 3, none⟩) hg).trans q3
        have e4 := (HBw.out.cell (p := ⟨g2, off2 + j * 7 + 4, none⟩) hg).trans q4
        have e5 := (HBw.out.cell (p := ⟨g2, off2 + j * 7 + 5, none⟩) hg).trans q5
        have e6 := (HBw.out.cell (p := ⟨g2, off2 + j * 7 + 6, none⟩) hg).trans q6
        have hxz : x.key.size + x.val.size ≤ 4096 := HTot2.out x (by rw [hx]; exact List.getElem_mem hj2)
        have HTk := Lib.hid (show totC (S2.take (j + 1)) = totC (S2.take j) + (x.key.size + x.val.size) from by rw [List.take_add_one, hxi]; exact totC_snoc _ _)
        clear q0 q1 q2 q3 q4 q5 q6 hx hxi
        have hbs2 := HBr.out.size
        have HDo := Lib.hid ((HQ.out.swap).does hbs2 HLo.out (by omega) tN_good tN_new (HBd2.out.mono (by omega)) HL2.out (Nat.le_trans HSu2.out (tot_take S2 j HTo2.out)) (show 0 ≤ z2 ∧ z2 ≤ 1099511627776 from by have := HZ2.out; omega) x hxz (by omega))
        have HBd2n := Lib.hid (ref_bd HBd2.out 20 z2 1048576 x (by omega) (by omega))
        have HL2n := Lib.hid (ref_len (fun e he => (HBd2.out.s e he).1) 20 z2 1048576 x (by decide) HL2.out (by omega) (by omega))
        have HSu2n := Lib.hid (show sumL (refOut L2 20 z2 1048576 x).2.1 ≤ totC (S2.take (j + 1)) from by
          have h1 := ref_sum (fun e he => (HBd2.out.s e he).1) 20 z2 1048576 x (by omega) (by omega)
          have h2 := HSu2.out
          rw [HTk.out]; omega)
        have HZ2n := Lib.hid (show 0 ≤ (refOut L2 20 z2 1048576 x).2.2 ∧ (refOut L2 20 z2 1048576 x).2.2 ≤ 172935 * ((j + 1 : Nat) : Int) from by
          have h1 := ref_z HBd2.out (by have := HL2.out; omega) 20 z2 1048576 x (by omega) (by omega) HZ2.out.1
          have h2 := HZ2.out.2
          omega)
        generalize refOut L2 20 z2 1048576 x = o2 at *
        obtain ⟨y2, M2, u2⟩ := o2
        obtain ⟨kd, key, val, nn, fu, kp, tn⟩ := x
        unfold cA clA at HDo
        try dsimp only at e0 e1 e2 e3 e4 e5 e6 HDo HBd2n HL2n HSu2n HZ2n
        clear HTk hxz hg
        go_wp2_with fail
        refine HDo.out.mono ?_
        rintro e wy ⟨er2, rfl, ⟨h2', A2', hq, hlo⟩, hB⟩
        try dsimp only at hq
        have HQ2n := Lib.hid (hq.swap)
        have HLo2n := Lib.hid hlo
        have HBr2n := Lib.hid (HBr.out.trans hB)
        clear hq hlo hB HDo e0 e1 e2 e3 e4 e5 e6
        have HBd1n := Lib.hid (HBd1.out.mono (Nat.le_succ j))
        have HL1n := HL1
        have HSu1n := Lib.hid (Nat.le_trans HSu1.out (tot_take_le S1 j))
        have HZ1n := Lib.hid (show 0 ≤ z1 ∧ z1 ≤ 172935 * ((j + 1 : Nat) : Int) from by have := HZ1.out; omega)
        go_wp2_with fail
        go_roundg (gk - 1)
        case measure => omega
        case rel => exact ⟨j + 1, L1, z1, M2, u2, h2', A2', by omega, by go_num, Lib.hid HQ2n.out, Lib.hid (HLo2n.out.more (by omega) (by omega)), HBd1n, HL1n, HSu1n, HZ1n, HBd2n, HL2n, HSu2n, HZ2n, HBr2n⟩
      · have hj2I : ¬ (j : Int) < (S2.length : Int) := by omega
        obtain ⟨pa, ca, hba, hha⟩ := HQ.out.has (HBd1.out.mono (by omega))
        dsimp only at hba hha
        have HHa := Lib.hid hha
        have d1 := block_cell hba 1
        rw [show (rsA 20 (.slice pa L1.length ca) z1)[1]? = some (.slice pa L1.length ca) from rfl] at d1
        clear hba hha
        go_wp2_with fail
        refine HHa.out.mono ?_
        rintro e wx ⟨rfl, hB⟩
        have HQ2 := Lib.hid (HQ.out.below hB)
        have HBx := Lib.hid (HBw.out.trans (hB.mono HBw.out.size))
        obtain ⟨pb, cb, hbb, hhb⟩ := HQ2.out.swap.has (HBd2.out.mono (by omega))
        dsimp only at hbb hhb
        have HHb := Lib.hid hhb
        have d2 := block_cell hbb 1
        rw [show (rsA 20 (.slice pb L2.length cb) z2)[1]? = some (.slice pb L2.length cb) from rfl] at d2
        clear hbb hhb hB d1 HHa
        go_wp2_with fail
        refine HHb.out.mono ?_
        rintro e wy ⟨rfl, hB⟩
        have HBy := Lib.hid (HBx.out.trans (hB.mono HBx.out.size))
        clear hB d2 HHb
        go_wp2_with fail
        go_ret
        exact ⟨rfl, HBy.out⟩
end Go.Proofs.Ytbdlmdmbaajcmaa
