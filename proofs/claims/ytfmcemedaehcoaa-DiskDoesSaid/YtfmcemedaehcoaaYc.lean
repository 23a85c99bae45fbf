/- A call on both devices: does, of all kinds. -/
import Derived.Test.YtfmcemedaehcoaaYb
namespace Go.Proofs.Ytfmcemedaehcoaa
set_option linter.unusedVariables false
set_option linter.unusedSimpArgs false
open Go.ChangeShapes Go.WideShapes Go.ChangeAt Go.RowKit Go.ChangeMaps

set_option maxRecDepth 100000 in
set_option maxHeartbeats 4000000 in
theorem does_read {base i : Nat} {T1 T2 : Nat → Prop} {d m : Nat} {h h' : Hd} {A A' : List Ab} {w : World} (P : PairT base T1 T2 d m h h' A A' w) (rl : Rel i h h' A A') (hi : i ≤ 1000) (x z : ByteArray) (n k : Int) (t : Bool) (u : Value) (bs : List UInt8) (hok : ClOk (fun k => T1 k ∨ T2 k) w ⟨1, x, z, n, k, t, u, bs⟩) :
    Calls Try.prog 14 #[.pointer (some ⟨d, 0, none⟩), .pointer (some ⟨m, 0, none⟩), .agg #[.int .i64 1, .string x, .string z, .int .i64 n, .int .i64 k, .bool t, u]] w (DoesR base T1 T2 d m i (h, A) w) := by
  obtain ⟨pu, cu, hu0⟩ := hok.b.slice
  have hu : u = .slice pu bs.length cu := hu0
  clear hu0
  subst hu
  obtain ⟨ok1, ok2, ok3, ok4⟩ := rl.ok hi
  have hxs : x.size ≤ 16384 := hok.a
  have hnr : -9223372036854775808 ≤ n ∧ n ≤ 9223372036854775807 := hok.n
  have hkr : -9223372036854775808 ≤ k ∧ k ≤ 9223372036854775807 := hok.k
  have hbx : (w.alloc (.cells #[.int .i64 1, .string x, .string z, .int .i64 n, .int .i64 k, .bool t, .slice pu bs.length cu] 31)).heap[w.heap.size]? = some (.cells #[.int .i64 1, .string x, .string z, .int .i64 n, .int .i64 k, .bool t, .slice pu bs.length cu] 31 (0, 0)) := heap_alloc_new _ _
  have hbb : Below w.heap.size w (w.alloc (.cells #[.int .i64 1, .string x, .string z, .int .i64 n, .int .i64 k, .bool t, .slice pu bs.length cu] 31)) := (Below.refl _ _).alloc (Nat.le_refl _) _
  have Hbx := Lib.hid hbx
  have HBb := Lib.hid hbb
  have HPb := Lib.hid (P.below hbb)
  have HNB : Hid (¬ T1 w.heap.size ∧ ¬ T2 w.heap.size) := Lib.hid ⟨fun hk => absurd (P.b1 _ hk).2 (by omega), fun hk => absurd (P.b2 _ hk).2 (by omega)⟩
  have c0 : (w.alloc (.cells #[.int .i64 1, .string x, .string z, .int .i64 n, .int .i64 k, .bool t, .slice pu bs.length cu] 31)).cell? ⟨w.heap.size, 0, none⟩ = some (.int .i64 1) := block_cell hbx 0
  have c1 : (w.alloc (.cells #[.int .i64 1, .string x, .string z, .int .i64 n, .int .i64 k, .bool t, .slice pu bs.length cu] 31)).cell? ⟨w.heap.size, 1, none⟩ = some (.string x) := block_cell hbx 1
  have c3 : (w.alloc (.cells #[.int .i64 1, .string x, .string z, .int .i64 n, .int .i64 k, .bool t, .slice pu bs.length cu] 31)).cell? ⟨w.heap.size, 3, none⟩ = some (.int .i64 n) := block_cell hbx 3
  have c4 : (w.alloc (.cells #[.int .i64 1, .string x, .string z, .int .i64 n, .int .i64 k, .bool t, .slice pu bs.length cu] 31)).cell? ⟨w.heap.size, 4, none⟩ = some (.int .i64 k) := block_cell hbx 4
  have c5 : (w.alloc (.cells #[.int .i64 1, .string x, .string z, .int .i64 n, .int .i64 k, .bool t, .slice pu bs.length cu] 31)).cell? ⟨w.heap.size, 5, none⟩ = some (.bool t) := block_cell hbx 5
  clear hbx hbb hok P
  by_cases hf : findA h A x = 0
  · obtain ⟨_, _, j, hj, _, hlk, _⟩ := findA_ok hf
    obtain ⟨y, hy⟩ : ∃ y, A[j] = y := ⟨_, rfl⟩
    rw [hy] at hlk
    have HRe := Lib.hid (fun w1 (hB : Below (w.alloc (.cells #[.int .i64 1, .string x, .string z, .int .i64 n, .int .i64 k, .bool t, .slice pu bs.length cu] 31)).heap.size (w.alloc (.cells #[.int .i64 1, .string x, .string z, .int .i64 n, .int .i64 k, .bool t, .slice pu bs.length cu] 31)) w1) => readR_any (HPb.out.below hB).r.rd ok4.n' x)
    rw [rl.find, hf, if_pos rfl, ← rl.agr.lk, hlk] at HRe
    have HC := Lib.hid (cRead HPb.out.c ok2 x)
    have HFL := Lib.hid (And.intro hf hlk)
    clear hf hlk hy
    go_enter Try.func14, Try.ntmps14
    go_wp2_with fail
    generalize w.alloc (.cells #[.int .i64 1, .string x, .string z, .int .i64 n, .int .i64 k, .bool t, .slice pu bs.length cu] 31) = wb at *
    refine HC.out.mono ?_
    intro e w1 h9
    obtain ⟨v', rfl, ho, hb⟩ := h9.ok HFL.out.1 HFL.out.2
    obtain ⟨p7, c7, rfl⟩ := own_sliceN (own_zero ho)
    have Ho := Lib.hid ho
    have HB1 := Lib.hid hb
    have d1 : w1.cell? ⟨w.heap.size, 1, none⟩ = some (.string x) := block_cell ((hb.block w.heap.size (lt_of_block Hbx.out)).trans Hbx.out) 1
    clear ho hb h9
    go_wp2_with fail
    refine (HRe.out _ HB1.out).mono ?_
    rintro e w2 ⟨rfl, hb⟩
    have HB2 := Lib.hid (HB1.out.trans (hb.mono HB1.out.size))
    have hcv := own_conv (gen_own_below Ho.out hb)
    clear hb
    go_wp2_with fail
    go_ret
    exact ⟨rfl, _, _, _, _, HPb.out.below HB2.out, rl.next, (Kept.of_below HBb.out).trans' (Kept.of_below HB2.out), fun k hk => .inl hk, fun k hk => .inl hk⟩
  · have HRe := Lib.hid (fun w1 (hB : Below (w.alloc (.cells #[.int .i64 1, .string x, .string z, .int .i64 n, .int .i64 k, .bool t, .slice pu bs.length cu] 31)).heap.size (w.alloc (.cells #[.int .i64 1, .string x, .string z, .int .i64 n, .int .i64 k, .bool t, .slice pu bs.length cu] 31)) w1) => readR_any (HPb.out.below hB).r.rd ok4.n' x)
    rw [rl.find, if_neg hf] at HRe
    have HC := Lib.hid (cRead HPb.out.c ok2 x)
    obtain ⟨r, hr⟩ : ∃ r, findA h A x = r := ⟨_, rfl⟩
    rw [hr] at HRe hf
    have HFL := Lib.hid (And.intro hr hf)
    clear hf hr
    go_enter Try.func14, Try.ntmps14
    go_wp2_with fail
    generalize w.alloc (.cells #[.int .i64 1, .string x, .string z, .int .i64 n, .int .i64 k, .bool t, .slice pu bs.length cu] 31) = wb at *
    refine HC.out.mono ?_
    intro e w1 h9
    obtain ⟨rfl, hb⟩ := h9.err r HFL.out.1 HFL.out.2
    have HB1 := Lib.hid hb
    have d1 : w1.cell? ⟨w.heap.size, 1, none⟩ = some (.string x) := block_cell ((hb.block w.heap.size (lt_of_block Hbx.out)).trans Hbx.out) 1
    clear hb h9
    go_wp2_with fail
    refine (HRe.out _ HB1.out).mono ?_
    rintro e w2 ⟨rfl, hb⟩
    have HB2 := Lib.hid (HB1.out.trans (hb.mono HB1.out.size))
    have hcv := conv_zero none 0 w2
    rw [show ByteArray.empty = ⟨#[]⟩ from rfl] at hcv
    clear hb
    go_wp2_with fail
    go_ret
    exact ⟨rfl, _, _, _, _, HPb.out.below HB2.out, rl.next, (Kept.of_below HBb.out).trans' (Kept.of_below HB2.out), fun k hk => .inl hk, fun k hk => .inl hk⟩
set_option maxRecDepth 100000 in
set_option maxHeartbeats 4000000 in
theorem does_off {base i : Nat} {T1 T2 : Nat → Prop} {d m : Nat} {h h' : Hd} {A A' : List Ab} {w : World} (P : PairT base T1 T2 d m h h' A A' w) (rl : Rel i h h' A A') (hi : i ≤ 1000) (x z : ByteArray) (n k : Int) (t : Bool) (u : Value) (bs : List UInt8) (hok : ClOk (fun k => T1 k ∨ T2 k) w ⟨6, x, z, n, k, t, u, bs⟩) (r : Hd × List Ab) (hr : r = ((if h.down = true then h else offH h), (if h.down = true then A else A.map (loseA n t)))) :
    Calls Try.prog 14 #[.pointer (some ⟨d, 0, none⟩), .pointer (some ⟨m, 0, none⟩), .agg #[.int .i64 6, .string x, .string z, .int .i64 n, .int .i64 k, .bool t, u]] w (DoesR base T1 T2 d m i r w) := by
  obtain ⟨pu, cu, hu0⟩ := hok.b.slice
  have hu : u = .slice pu bs.length cu := hu0
  clear hu0
  subst hu
  obtain ⟨ok1, ok2, ok3, ok4⟩ := rl.ok hi
  have hxs : x.size ≤ 16384 := hok.a
  have hnr : -9223372036854775808 ≤ n ∧ n ≤ 9223372036854775807 := hok.n
  have hkr : -9223372036854775808 ≤ k ∧ k ≤ 9223372036854775807 := hok.k
  have hbx : (w.alloc (.cells #[.int .i64 6, .string x, .string z, .int .i64 n, .int .i64 k, .bool t, .slice pu bs.length cu] 31)).heap[w.heap.size]? = some (.cells #[.int .i64 6, .string x, .string z, .int .i64 n, .int .i64 k, .bool t, .slice pu bs.length cu] 31 (0, 0)) := heap_alloc_new _ _
  have hbb : Below w.heap.size w (w.alloc (.cells #[.int .i64 6, .string x, .string z, .int .i64 n, .int .i64 k, .bool t, .slice pu bs.length cu] 31)) := (Below.refl _ _).alloc (Nat.le_refl _) _
  have Hbx := Lib.hid hbx
  have HBb := Lib.hid hbb
  have HPb := Lib.hid (P.below hbb)
  have HNB : Hid (¬ T1 w.heap.size ∧ ¬ T2 w.heap.size) := Lib.hid ⟨fun hk => absurd (P.b1 _ hk).2 (by omega), fun hk => absurd (P.b2 _ hk).2 (by omega)⟩
  have c0 : (w.alloc (.cells #[.int .i64 6, .string x, .string z, .int .i64 n, .int .i64 k, .bool t, .slice pu bs.length cu] 31)).cell? ⟨w.heap.size, 0, none⟩ = some (.int .i64 6) := block_cell hbx 0
  have c1 : (w.alloc (.cells #[.int .i64 6, .string x, .string z, .int .i64 n, .int .i64 k, .bool t, .slice pu bs.length cu] 31)).cell? ⟨w.heap.size, 1, none⟩ = some (.string x) := block_cell hbx 1
  have c3 : (w.alloc (.cells #[.int .i64 6, .string x, .string z, .int .i64 n, .int .i64 k, .bool t, .slice pu bs.length cu] 31)).cell? ⟨w.heap.size, 3, none⟩ = some (.int .i64 n) := block_cell hbx 3
  have c4 : (w.alloc (.cells #[.int .i64 6, .string x, .string z, .int .i64 n, .int .i64 k, .bool t, .slice pu bs.length cu] 31)).cell? ⟨w.heap.size, 4, none⟩ = some (.int .i64 k) := block_cell hbx 4
  have c5 : (w.alloc (.cells #[.int .i64 6, .string x, .string z, .int .i64 n, .int .i64 k, .bool t, .slice pu bs.length cu] 31)).cell? ⟨w.heap.size, 5, none⟩ = some (.bool t) := block_cell hbx 5
  clear hbx hbb hok P
  have HR2 := Lib.hid hr
  clear hr
  go_enter Try.func14, Try.ntmps14
  go_wp2_with fail
  generalize w.alloc (.cells #[.int .i64 6, .string x, .string z, .int .i64 n, .int .i64 k, .bool t, .slice pu bs.length cu] 31) = wb at *
  refine (cOff HPb.out.c ok2 n t).mono ?_
  rintro e w1 ⟨rfl, d1, k1⟩
  have hb1 := (k1.block w.heap.size (lt_of_block Hbx.out) HNB.out.1).trans Hbx.out
  have e3 : w1.cell? ⟨w.heap.size, 3, none⟩ = some (.int .i64 n) := block_cell hb1 3
  have e5 : w1.cell? ⟨w.heap.size, 5, none⟩ = some (.bool t) := block_cell hb1 5
  have HP1 := Lib.hid (HPb.out.one (d1.mono (fun k hk => .inl hk)) k1)
  have HK1 := Lib.hid k1
  clear d1 k1 hb1
  go_wp2_with fail
  refine (rLose HP1.out.r ok4 n t hnr).mono ?_
  rintro e w2 ⟨rfl, d2, k2⟩
  have HP2 := Lib.hid (HP1.out.two d2 k2)
  have HK2 := Lib.hid k2
  clear d2 k2
  go_wp2_with fail
  go_ret
  exact ⟨rfl, Gr T1 wb w1, Gr T2 w1 w2, _, _, by rw [HR2.out]; exact HP2.out, by rw [HR2.out]; exact rl.off n t, (Kept.of_below HBb.out).trans' ((HK1.out.mono (fun k hk => .inl hk)).trans' (HK2.out.mono (fun k hk => .inr hk))), (fun k hk => hk.imp id (fun x => Nat.le_trans HBb.out.size x.1)), fun k hk => hk.imp id (fun x => Nat.le_trans (Nat.le_trans HBb.out.size HK1.out.size) x.1)⟩
set_option maxRecDepth 100000 in
set_option maxHeartbeats 4000000 in
theorem does_arm {base i : Nat} {T1 T2 : Nat → Prop} {d m : Nat} {h h' : Hd} {A A' : List Ab} {w : World} (P : PairT base T1 T2 d m h h' A A' w) (rl : Rel i h h' A A') (hi : i ≤ 1000) (x z : ByteArray) (n k : Int) (t : Bool) (u : Value) (bs : List UInt8) (hok : ClOk (fun k => T1 k ∨ T2 k) w ⟨8, x, z, n, k, t, u, bs⟩) :
    Calls Try.prog 14 #[.pointer (some ⟨d, 0, none⟩), .pointer (some ⟨m, 0, none⟩), .agg #[.int .i64 8, .string x, .string z, .int .i64 n, .int .i64 k, .bool t, u]] w (DoesR base T1 T2 d m i ({ h with left := max n 0, keep := k, torn := t }, A) w) := by
  obtain ⟨pu, cu, hu0⟩ := hok.b.slice
  have hu : u = .slice pu bs.length cu := hu0
  clear hu0
  subst hu
  obtain ⟨ok1, ok2, ok3, ok4⟩ := rl.ok hi
  have hxs : x.size ≤ 16384 := hok.a
  have hnr : -9223372036854775808 ≤ n ∧ n ≤ 9223372036854775807 := hok.n
  have hkr : -9223372036854775808 ≤ k ∧ k ≤ 9223372036854775807 := hok.k
  have hbx : (w.alloc (.cells #[.int .i64 8, .string x, .string z, .int .i64 n, .int .i64 k, .bool t, .slice pu bs.length cu] 31)).heap[w.heap.size]? = some (.cells #[.int .i64 8, .string x, .string z, .int .i64 n, .int .i64 k, .bool t, .slice pu bs.length cu] 31 (0, 0)) := heap_alloc_new _ _
  have hbb : Below w.heap.size w (w.alloc (.cells #[.int .i64 8, .string x, .string z, .int .i64 n, .int .i64 k, .bool t, .slice pu bs.length cu] 31)) := (Below.refl _ _).alloc (Nat.le_refl _) _
  have Hbx := Lib.hid hbx
  have HBb := Lib.hid hbb
  have HPb := Lib.hid (P.below hbb)
  have HNB : Hid (¬ T1 w.heap.size ∧ ¬ T2 w.heap.size) := Lib.hid ⟨fun hk => absurd (P.b1 _ hk).2 (by omega), fun hk => absurd (P.b2 _ hk).2 (by omega)⟩
  have c0 : (w.alloc (.cells #[.int .i64 8, .string x, .string z, .int .i64 n, .int .i64 k, .bool t, .slice pu bs.length cu] 31)).cell? ⟨w.heap.size, 0, none⟩ = some (.int .i64 8) := block_cell hbx 0
  have c1 : (w.alloc (.cells #[.int .i64 8, .string x, .string z, .int .i64 n, .int .i64 k, .bool t, .slice pu bs.length cu] 31)).cell? ⟨w.heap.size, 1, none⟩ = some (.string x) := block_cell hbx 1
  have c3 : (w.alloc (.cells #[.int .i64 8, .string x, .string z, .int .i64 n, .int .i64 k, .bool t, .slice pu bs.length cu] 31)).cell? ⟨w.heap.size, 3, none⟩ = some (.int .i64 n) := block_cell hbx 3
  have c4 : (w.alloc (.cells #[.int .i64 8, .string x, .string z, .int .i64 n, .int .i64 k, .bool t, .slice pu bs.length cu] 31)).cell? ⟨w.heap.size, 4, none⟩ = some (.int .i64 k) := block_cell hbx 4
  have c5 : (w.alloc (.cells #[.int .i64 8, .string x, .string z, .int .i64 n, .int .i64 k, .bool t, .slice pu bs.length cu] 31)).cell? ⟨w.heap.size, 5, none⟩ = some (.bool t) := block_cell hbx 5
  clear hbx hbb hok P
  go_enter Try.func14, Try.ntmps14
  go_wp2_with fail
  generalize w.alloc (.cells #[.int .i64 8, .string x, .string z, .int .i64 n, .int .i64 k, .bool t, .slice pu bs.length cu] 31) = wb at *
  refine (cArm HPb.out.c n k t).mono ?_
  rintro e w1 ⟨rfl, d1, k1⟩
  have hb1 := (k1.block w.heap.size (lt_of_block Hbx.out) HNB.out.1).trans Hbx.out
  have e3 : w1.cell? ⟨w.heap.size, 3, none⟩ = some (.int .i64 n) := block_cell hb1 3
  have e4 : w1.cell? ⟨w.heap.size, 4, none⟩ = some (.int .i64 k) := block_cell hb1 4
  have e5 : w1.cell? ⟨w.heap.size, 5, none⟩ = some (.bool t) := block_cell hb1 5
  have HP1 := Lib.hid (HPb.out.one (d1.mono (fun k hk => .inl hk)) k1)
  have HK1 := Lib.hid k1
  clear d1 k1 hb1
  go_wp2_with fail
  refine (rArm HP1.out.r n k t).mono ?_
  rintro e w2 ⟨rfl, d2, k2⟩
  have HP2 := Lib.hid (HP1.out.two d2 k2)
  have HK2 := Lib.hid k2
  clear d2 k2
  go_wp2_with fail
  go_ret
  exact ⟨rfl, _, _, _, _, HP2.out, rl.arm n k t hnr hkr, (Kept.of_below HBb.out).trans' ((HK1.out.mono (fun k hk => .inl hk)).trans' (HK2.out.mono (fun k hk => .inr hk))), (fun k hk => hk.imp id (fun x => Nat.le_trans HBb.out.size x.1)), fun k hk => hk.imp id (fun x => Nat.le_trans (Nat.le_trans HBb.out.size HK1.out.size) x.1)⟩
/-- The power is back, the document's way: a field is written. -/
theorem RV.on {T : Nat → Prop} {b : Nat} {h : Hd} {A : List Ab} {w : World} (d : RV T b h A w) : RV (Gr T w (w.setCell ⟨b, 2, none⟩ (.bool false))) b { h with down := false } A (w.setCell ⟨b, 2, none⟩ (.bool false)) ∧ Kept T w (w.setCell ⟨b, 2, none⟩ (.bool false)) := by
  have e := d.rd.set (h' := { h with down := false }) 2 (.bool false) (fun v => rfl)
  exact ⟨e.rv, e.k⟩
set_option maxRecDepth 100000 in
set_option maxHeartbeats 4000000 in
theorem does_on {base i : Nat} {T1 T2 : Nat → Prop} {d m : Nat} {h h' : Hd} {A A' : List Ab} {w : World} (P : PairT base T1 T2 d m h h' A A' w) (rl : Rel i h h' A A') (hi : i ≤ 1000) (x z : ByteArray) (n k : Int) (t : Bool) (u : Value) (bs : List UInt8) (hok : ClOk (fun k => T1 k ∨ T2 k) w ⟨7, x, z, n, k, t, u, bs⟩) :
    Calls Try.prog 14 #[.pointer (some ⟨d, 0, none⟩), .pointer (some ⟨m, 0, none⟩), .agg #[.int .i64 7, .string x, .string z, .int .i64 n, .int .i64 k, .bool t, u]] w (DoesR base T1 T2 d m i ({ h with down := false }, A) w) := by
  obtain ⟨pu, cu, hu0⟩ := hok.b.slice
  have hu : u = .slice pu bs.length cu := hu0
  clear hu0
  subst hu
  obtain ⟨ok1, ok2, ok3, ok4⟩ := rl.ok hi
  have hxs : x.size ≤ 16384 := hok.a
  have hnr : -9223372036854775808 ≤ n ∧ n ≤ 9223372036854775807 := hok.n
  have hkr : -9223372036854775808 ≤ k ∧ k ≤ 9223372036854775807 := hok.k
  have hbx : (w.alloc (.cells #[.int .i64 7, .string x, .string z, .int .i64 n, .int .i64 k, .bool t, .slice pu bs.length cu] 31)).heap[w.heap.size]? = some (.cells #[.int .i64 7, .string x, .string z, .int .i64 n, .int .i64 k, .bool t, .slice pu bs.length cu] 31 (0, 0)) := heap_alloc_new _ _
  have hbb : Below w.heap.size w (w.alloc (.cells #[.int .i64 7, .string x, .string z, .int .i64 n, .int .i64 k, .bool t, .slice pu bs.length cu] 31)) := (Below.refl _ _).alloc (Nat.le_refl _) _
  have Hbx := Lib.hid hbx
  have HBb := Lib.hid hbb
  have HPb := Lib.hid (P.below hbb)
  have HNB : Hid (¬ T1 w.heap.size ∧ ¬ T2 w.heap.size) := Lib.hid ⟨fun hk => absurd (P.b1 _ hk).2 (by omega), fun hk => absurd (P.b2 _ hk).2 (by omega)⟩
  have c0 : (w.alloc (.cells #[.int .i64 7, .string x, .string z, .int .i64 n, .int .i64 k, .bool t, .slice pu bs.length cu] 31)).cell? ⟨w.heap.size, 0, none⟩ = some (.int .i64 7) := block_cell hbx 0
  have c1 : (w.alloc (.cells #[.int .i64 7, .string x, .string z, .int .i64 n, .int .i64 k, .bool t, .slice pu bs.length cu] 31)).cell? ⟨w.heap.size, 1, none⟩ = some (.string x) := block_cell hbx 1
  have c3 : (w.alloc (.cells #[.int .i64 7, .string x, .string z, .int .i64 n, .int .i64 k, .bool t, .slice pu bs.length cu] 31)).cell? ⟨w.heap.size, 3, none⟩ = some (.int .i64 n) := block_cell hbx 3
  have c4 : (w.alloc (.cells #[.int .i64 7, .string x, .string z, .int .i64 n, .int .i64 k, .bool t, .slice pu bs.length cu] 31)).cell? ⟨w.heap.size, 4, none⟩ = some (.int .i64 k) := block_cell hbx 4
  have c5 : (w.alloc (.cells #[.int .i64 7, .string x, .string z, .int .i64 n, .int .i64 k, .bool t, .slice pu bs.length cu] 31)).cell? ⟨w.heap.size, 5, none⟩ = some (.bool t) := block_cell hbx 5
  clear hbx hbb hok P
  go_enter Try.func14, Try.ntmps14
  go_wp2_with fail
  generalize w.alloc (.cells #[.int .i64 7, .string x, .string z, .int .i64 n, .int .i64 k, .bool t, .slice pu bs.length cu] 31) = wb at *
  refine (cOn HPb.out.c).mono ?_
  rintro e w1 ⟨rfl, d1, k1⟩
  have p1 := HPb.out.one (d1.mono (fun k hk => .inl hk)) k1
  obtain ⟨v, hbm, _⟩ := p1.r.r
  have f2 := block_free hbm 2
  have e2 : w1.cell? ⟨m, 2, none⟩ = some (.bool h'.down) := block_cell hbm 2
  have HP2 := Lib.hid (p1.two p1.r.on.1 p1.r.on.2)
  have HK1 := Lib.hid k1
  have HK2 := Lib.hid p1.r.on.2
  clear d1 k1 hbm p1
  go_wp2_with fail
  go_ret
  exact ⟨rfl, _, _, _, _, HP2.out, rl.on, (Kept.of_below HBb.out).trans' ((HK1.out.mono (fun k hk => .inl hk)).trans' (HK2.out.mono (fun k hk => .inr hk))), (fun k hk => hk.imp id (fun x => Nat.le_trans HBb.out.size x.1)), fun k hk => hk.imp id (fun x => Nat.le_trans (Nat.le_trans HBb.out.size HK1.out.size) x.1)⟩
set_option maxRecDepth 100000 in
set_option maxHeartbeats 4000000 in
theorem does_none (kd : Int) (hkd : kd ≠ 0 ∧ kd ≠ 1 ∧ kd ≠ 2 ∧ kd ≠ 3 ∧ kd ≠ 4 ∧ kd ≠ 5 ∧ kd ≠ 6 ∧ kd ≠ 7 ∧ kd ≠ 8) {base i : Nat} {T1 T2 : Nat → Prop} {d m : Nat} {h h' : Hd} {A A' : List Ab} {w : World} (P : PairT base T1 T2 d m h h' A A' w) (rl : Rel i h h' A A') (hi : i ≤ 1000) (x z : ByteArray) (n k : Int) (t : Bool) (u : Value) (bs : List UInt8) (hok : ClOk (fun k => T1 k ∨ T2 k) w ⟨kd, x, z, n, k, t, u, bs⟩) :
    Calls Try.prog 14 #[.pointer (some ⟨d, 0, none⟩), .pointer (some ⟨m, 0, none⟩), .agg #[.int .i64 kd, .string x, .string z, .int .i64 n, .int .i64 k, .bool t, u]] w (DoesR base T1 T2 d m i (h, A) w) := by
  obtain ⟨pu, cu, hu0⟩ := hok.b.slice
  have hu : u = .slice pu bs.length cu := hu0
  clear hu0
  subst hu
  obtain ⟨ok1, ok2, ok3, ok4⟩ := rl.ok hi
  have hxs : x.size ≤ 16384 := hok.a
  have hnr : -9223372036854775808 ≤ n ∧ n ≤ 9223372036854775807 := hok.n
  have hkr : -9223372036854775808 ≤ k ∧ k ≤ 9223372036854775807 := hok.k
  have hbx : (w.alloc (.cells #[.int .i64 kd, .string x, .string z, .int .i64 n, .int .i64 k, .bool t, .slice pu bs.length cu] 31)).heap[w.heap.size]? = some (.cells #[.int .i64 kd, .string x, .string z, .int .i64 n, .int .i64 k, .bool t, .slice pu bs.length cu] 31 (0, 0)) := heap_alloc_new _ _
  have hbb : Below w.heap.size w (w.alloc (.cells #[.int .i64 kd, .string x, .string z, .int .i64 n, .int .i64 k, .bool t, .slice pu bs.length cu] 31)) := (Below.refl _ _).alloc (Nat.le_refl _) _
  have Hbx := Lib.hid hbx
  have HBb := Lib.hid hbb
  have HPb := Lib.hid (P.below hbb)
  have HNB : Hid (¬ T1 w.heap.size ∧ ¬ T2 w.heap.size) := Lib.hid ⟨fun hk => absurd (P.b1 _ hk).2 (by omega), fun hk => absurd (P.b2 _ hk).2 (by omega)⟩
  have c0 : (w.alloc (.cells #[.int .i64 kd, .string x, .string z, .int .i64 n, .int .i64 k, .bool t, .slice pu bs.length cu] 31)).cell? ⟨w.heap.size, 0, none⟩ = some (.int .i64 kd) := block_cell hbx 0
  have c1 : (w.alloc (.cells #[.int .i64 kd, .string x, .string z, .int .i64 n, .int .i64 k, .bool t, .slice pu bs.length cu] 31)).cell? ⟨w.heap.size, 1, none⟩ = some (.string x) := block_cell hbx 1
  have c3 : (w.alloc (.cells #[.int .i64 kd, .string x, .string z, .int .i64 n, .int .i64 k, .bool t, .slice pu bs.length cu] 31)).cell? ⟨w.heap.size, 3, none⟩ = some (.int .i64 n) := block_cell hbx 3
  have c4 : (w.alloc (.cells #[.int .i64 kd, .string x, .string z, .int .i64 n, .int .i64 k, .bool t, .slice pu bs.length cu] 31)).cell? ⟨w.heap.size, 4, none⟩ = some (.int .i64 k) := block_cell hbx 4
  have c5 : (w.alloc (.cells #[.int .i64 kd, .string x, .string z, .int .i64 n, .int .i64 k, .bool t, .slice pu bs.length cu] 31)).cell? ⟨w.heap.size, 5, none⟩ = some (.bool t) := block_cell hbx 5
  clear hbx hbb hok P
  have q0 : (kd == 0) = false := by rw [beq_eq_false_iff_ne]; omega
  have q1 : (kd == 1) = false := by rw [beq_eq_false_iff_ne]; omega
  have q2 : (kd == 2) = false := by rw [beq_eq_false_iff_ne]; omega
  have q3 : (kd == 3) = false := by rw [beq_eq_false_iff_ne]; omega
  have q4 : (kd == 4) = false := by rw [beq_eq_false_iff_ne]; omega
  have q5 : (kd == 5) = false := by rw [beq_eq_false_iff_ne]; omega
  have q6 : (kd == 6) = false := by rw [beq_eq_false_iff_ne]; omega
  have q7 : (kd == 7) = false := by rw [beq_eq_false_iff_ne]; omega
  have q8 : (kd == 8) = false := by rw [beq_eq_false_iff_ne]; omega
  clear hkd
  go_enter Try.func14, Try.ntmps14
  go_wp2_with fail
  generalize w.alloc (.cells #[.int .i64 kd, .string x, .string z, .int .i64 n, .int .i64 k, .bool t, .slice pu bs.length cu] 31) = wb at *
  go_ret
  exact ⟨rfl, _, _, _, _, HPb.out, rl.next, Kept.of_below HBb.out, fun k hk => .inl hk, fun k hk => .inl hk⟩
theorem does_any {base i : Nat} {T1 T2 : Nat → Prop} {d m : Nat} {h h' : Hd} {A A' : List Ab} {w : World} (P : PairT base T1 T2 d m h h' A A' w) (rl : Rel i h h' A A') (hi : i ≤ 1000) (c : Cl) (hok : ClOk (fun k => T1 k ∨ T2 k) w c) :
    Calls Try.prog 14 #[.pointer (some ⟨d, 0, none⟩), .pointer (some ⟨m, 0, none⟩), .agg (clV c).toArray] w (DoesR base T1 T2 d m i (goC c h A) w) := by
  obtain ⟨kd, x, z, n, k, t, u, bs⟩ := c
  by_cases h0 : kd = 0 ∨ kd = 2 ∨ kd = 3 ∨ kd = 4 ∨ kd = 5
  · exact does_draw kd h0 P rl hi x z n k t u bs hok _ rfl
  · by_cases h1 : kd = 1
    · subst h1; exact does_read P rl hi x z n k t u bs hok
    · by_cases h6 : kd = 6
      · subst h6; exact does_off P rl hi x z n k t u bs hok _ rfl
      · by_cases h7 : kd = 7
        · subst h7; exact does_on P rl hi x z n k t u bs hok
        · by_cases h8 : kd = 8
          · subst h8; exact does_arm P rl hi x z n k t u bs hok
          · have e : goC ⟨kd, x, z, n, k, t, u, bs⟩ h A = (h, A) := by
              unfold goC
              simp only
              rw [if_neg (by omega), if_neg (by omega), if_neg (by omega), if_neg (by omega), if_neg (by omega), if_neg h6, if_neg h7, if_neg h8]
            rw [e]
            exact does_none kd (by omega) P rl hi x z n k t u bs hok
end Go.Proofs.Ytfmcemedaehcoaa
