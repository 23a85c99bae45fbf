/- A call on both: does. -/
import Derived.Test.YtbdlmdmbaajcmaaZu
import Derived.Test.YtbdlmdmbaajcmaaKy
namespace Go.Proofs.Ytbdlmdmbaajcmaa
set_option linter.unusedVariables false
set_option linter.unusedSimpArgs false
open Go.ChangeShapes Go.WideShapes Go.ChangeAt Go.RowKit

theorem out_load5 {P : Program} {o : Oper} {ρ : Operand → Value} {w : World} {φ : Value → World → Prop} {ty : TypeId} {x : Operand} {p : Addr} {v : Value} (ho : o.op = .load ty x) (hx : ρ x = .pointer (some p)) (hr : (loadVar ty p).run P w = .ok v w) (hφ : φ v w) : K5.Out P o ρ w φ := by
  refine K5.out_run (v := v) (w' := w) ?_ hφ
  unfold execOp
  simp only [ho, hx, Instr.loadAt, Instr.sureAddr, Sem.run_bind, Sem.run_pure, Result.andThen_ok, hr]
/-- The code's store on its device, and the document's store: each in blocks of its own. -/
structure Pair (TD TS TR : Nat → Prop) (b d : Nat) (nm : ByteArray) (m : Int) (h : Hd) (A : List Ab) (L : List En) (b2 : Nat) (m2 : Int) (L2 : List En) (z : Int) (w : World) : Prop where
  kv : Kv TD TS b d nm m h A L w
  rs : Rs TR b2 m2 L2 z w
  dj : ∀ k, TR k → ¬ Or2 TD TS k
  lr : ∀ k, TR k → k < w.heap.size
section
variable {TD TS TR : Nat → Prop} {b d : Nat} {nm : ByteArray} {m : Int} {h : Hd} {A : List Ab} {L : List En} {b2 : Nat} {m2 : Int} {L2 : List En} {z : Int} {w w' : World}
theorem Pair.below (p : Pair TD TS TR b d nm m h A L b2 m2 L2 z w) (hB : Below w.heap.size w w') : Pair TD TS TR b d nm m h A L b2 m2 L2 z w' :=
  ⟨p.kv.below hB, p.rs.below hB, p.dj, fun k hk => Nat.lt_of_lt_of_le (p.lr k hk) hB.size⟩
theorem Pair.one (p : Pair TD TS TR b d nm m h A L b2 m2 L2 z w) {TD1 TS1 : Nat → Prop} {h1 : Hd} {A1 : List Ab} {L1 : List En} (q1 : Kv TD1 TS1 b d nm m h1 A1 L1 w') (q2 : ∀ k, TD1 k → Gr TD w w' k) (q3 : ∀ k, TS1 k → Gr TS w w' k) (q4 : Kept (Or2 TD TS) w w') : Pair TD1 TS1 TR b d nm m h1 A1 L1 b2 m2 L2 z w' :=
  ⟨q1, p.rs.kept q4 p.dj, fun k hk ho => by
    have := p.lr k hk
    rcases ho with ho | ho
    · rcases q2 k ho with ho | ho
      · exact p.dj k hk (.inl ho)
      · omega
    · rcases q3 k ho with ho | ho
      · exact p.dj k hk (.inr ho)
      · omega, fun k hk => Nat.lt_of_lt_of_le (p.lr k hk) q4.size⟩
theorem Kv.kept {T2 : Nat → Prop} (k : Kv TD TS b d nm m h A L w) (hk : Kept T2 w w') (hd : ∀ q, Or2 TD TS q → ¬ T2 q) : Kv TD TS b d nm m h A L w' :=
  ⟨k.dv.kept hk (fun q hq => hd q (.inl hq)), k.st.kept hk (fun q hq => hd q (.inr hq)), k.dj, fun q hq => Nat.lt_of_lt_of_le (k.ld q hq) hk.size, fun q hq => Nat.lt_of_lt_of_le (k.ls q hq) hk.size⟩
theorem Pair.two (p : Pair TD TS TR b d nm m h A L b2 m2 L2 z w) {L3 : List En} {z3 : Int} (q1 : Rs (Gr TR w w') b2 m2 L3 z3 w') (q2 : Kept TR w w') : Pair TD TS (Gr TR w w') b d nm m h A L b2 m2 L3 z3 w' :=
  ⟨p.kv.kept q2 (fun q hq hr => p.dj q hr hq), q1, fun k hk ho => by
    rcases hk with hk | hk
    · exact p.dj k hk ho
    · rcases ho with ho | ho
      · have := p.kv.ld k ho; omega
      · have := p.kv.ls k ho; omega, fun k hk => by
    rcases hk with hk | hk
    · exact Nat.lt_of_lt_of_le (p.lr k hk) q2.size
    · exact hk.2⟩
end
/-- Before the calls, between them, behind them. -/
def JT (TD TS TR : Nat → Prop) (b d : Nat) (nm : ByteArray) (m : Int) (h : Hd) (A : List Ab) (L : List En) (h1 : Hd) (A1 : List Ab) (L1 : List En) (b2 : Nat) (m2 : Int) (L2 : List En) (z : Int) (L3 : List En) (z3 : Int) (N : Nat) : Nat → World → Prop
  | 0, w => Pair TD TS TR b d nm m h A L b2 m2 L2 z w
  | 1, w => ∃ TD' TS', Pair TD' TS' TR b d nm m h1 A1 L1 b2 m2 L2 z w ∧ (∀ k, TD' k → TD k ∨ N ≤ k) ∧ (∀ k, TS' k → TS k ∨ N ≤ k)
  | _, w => ∃ TD' TS' TR', Pair TD' TS' TR' b d nm m h1 A1 L1 b2 m2 L3 z3 w ∧ (∀ k, TD' k → TD k ∨ N ≤ k) ∧ (∀ k, TS' k → TS k ∨ N ≤ k) ∧ ∀ k, TR' k → TR k ∨ N ≤ k
theorem JT.st (TD TS TR : Nat → Prop) (b d : Nat) (nm : ByteArray) (m : Int) (h : Hd) (A : List Ab) (L : List En) (h1 : Hd) (A1 : List Ab) (L1 : List En) (b2 : Nat) (m2 : Int) (L2 : List En) (z : Int) (L3 : List En) (z3 : Int) (N : Nat) : ∀ c w1 w2, JT TD TS TR b d nm m h A L h1 A1 L1 b2 m2 L2 z L3 z3 N c w1 → Below w1.heap.size w1 w2 → JT TD TS TR b d nm m h A L h1 A1 L1 b2 m2 L2 z L3 z3 N c w2
  | 0, _, _, p, hB => Pair.below p hB
  | 1, _, _, ⟨T, T', p, q⟩, hB => ⟨T, T', p.below hB, q⟩
  | _ + 2, _, _, ⟨T, T', T'', p, q⟩, hB => ⟨T, T', T'', p.below hB, q⟩
def DoesEnd (TD TS TR : Nat → Prop) (b d : Nat) (nm : ByteArray) (m : Int) (e1 : Int) (h1 : Hd) (A1 : List Ab) (L1 : List En) (b2 : Nat) (m2 : Int) (o : Int × List En × Int) (w : World) (e : Ending) (w' : World) : Prop :=
  ∃ TD' TS' TR', e = .returned (.tuple #[.int .i64 e1, .int .i64 o.1]) ∧ Pair TD' TS' TR' b d nm m h1 A1 L1 b2 m2 o.2.1 o.2.2 w' ∧ (∀ k, TD' k → TD k ∨ w.heap.size ≤ k) ∧ (∀ k, TS' k → TS k ∨ w.heap.size ≤ k) ∧ (∀ k, TR' k → TR k ∨ w.heap.size ≤ k) ∧ Kept (fun k => Or2 TD TS k ∨ k = b2) w w'
set_option maxRecDepth 100000 in
set_option maxHeartbeats 4000000 in
/-- Put on both. -/
theorem does_put {TD TS TR : Nat → Prop} {b d b2 : Nat} {nm : ByteArray} {m m2 z : Int} {h : Hd} {A : List Ab} {L L2 : List En} {w : World} (pr : Pair TD TS TR b d nm m h A L b2 m2 L2 z w) (key val : ByteArray) (n fu kp free : Int) (tn : Bool) (r : Int × Hd × List Ab) (Lx : List En) (o : Int × List En × Int)
    (hc : ∀ fw, Kv TD TS b d nm m h A L fw → Calls Try.prog 18 #[.pointer (some ⟨b, 0, none⟩), .string key, .string val] fw (LogEnd TD TS b d nm m r L Lx fw)) (hr : ∀ fw, Rs TR b2 m2 L2 z fw → (∀ k, TR k → k < fw.heap.size) → Calls Try.prog 34 #[.pointer (some ⟨b2, 0, none⟩), .string key, .string val, .int .i64 free] fw (RsEnd TR b2 m2 o fw)) :
    Calls Try.prog 13 #[.pointer (some ⟨b, 0, none⟩), .pointer (some ⟨b2, 0, none⟩), .agg #[.int .i64 0, .string key, .string val, .int .i64 n, .int .i64 fu, .int .i64 kp, .bool tn], .int .i64 free] w (DoesEnd TD TS TR b d nm m r.1 r.2.1 r.2.2 (if r.1 = 0 then Lx else L) b2 m2 o w) := by
  have HC := Lib.hid hc
  have HR := Lib.hid hr
  obtain ⟨L1, hL1⟩ : ∃ L1, L1 = (if r.1 = 0 then Lx else L) := ⟨_, rfl⟩
  rw [← hL1]
  have HLq := Lib.hid hL1
  clear hc hr hL1
  obtain ⟨e1, h1, A1⟩ := r
  have hbx : (w.alloc (.cells #[.int .i64 0, .string key, .string val, .int .i64 n, .int .i64 fu, .int .i64 kp, .bool tn] 36)).heap[w.heap.size]? = some (.cells #[.int .i64 0, .string key, .string val, .int .i64 n, .int .i64 fu, .int .i64 kp, .bool tn] 36 (0, 0)) := heap_alloc_new _ _
  have hbb : Below w.heap.size w (w.alloc (.cells #[.int .i64 0, .string key, .string val, .int .i64 n, .int .i64 fu, .int .i64 kp, .bool tn] 36)) := (Below.refl _ _).alloc (Nat.le_refl _) _
  have c0 := block_cell hbx 0
  have Hnot := Lib.hid (show ¬ (Or2 TD TS w.heap.size ∨ w.heap.size = b2) from fun hk => by
    rcases hk with (hk | hk) | hk
    · exact absurd (pr.kv.ld _ hk) (Nat.lt_irrefl _)
    · exact absurd (pr.kv.ls _ hk) (Nat.lt_irrefl _)
    · have := pr.lr _ pr.rs.t; omega)
  have HPb := Lib.hid (pr.below hbb)
  have HBb := Lib.hid hbb
  obtain ⟨bx, hbxe⟩ : ∃ bx, bx = w.heap.size := ⟨_, rfl⟩
  rw [← hbxe] at hbx c0 Hnot
  have Hbx := Lib.hid hbx
  clear hbx hbb pr
  go_enter Try.func13, Try.ntmps13
  go_upto_region 1 with fail
  rw [← hbxe]
  have Hbe := Lib.hid hbxe
  clear hbxe
  generalize w.alloc (.cells #[.int .i64 0, .string key, .string val, .int .i64 n, .int .i64 fu, .int .i64 kp, .bool tn] 36) = wb at *
  have HL1 : Hid (∀ w9, Kept (fun k => Or2 TD TS k ∨ k = b2) wb w9 → (loadVar 9 ⟨bx, 1, none⟩).run Try.prog w9 = .ok (.string key) w9) := Lib.hid (fun w9 h9 => by have e := block_cell ((h9.block bx (lt_of_block Hbx.out) Hnot.out).trans Hbx.out) 1; simp [go_sem, e])
  have HL2 : Hid (∀ w9, Kept (fun k => Or2 TD TS k ∨ k = b2) wb w9 → (loadVar 9 ⟨bx, 2, none⟩).run Try.prog w9 = .ok (.string val) w9) := Lib.hid (fun w9 h9 => by have e := block_cell ((h9.block bx (lt_of_block Hbx.out) Hnot.out).trans Hbx.out) 2; simp [go_sem, e])
  go_upto_region 3 with fail
  have hdk : Kept (fun k => Or2 TD TS k ∨ k = b2) wb wb.drew := Kept.of_below ((Below.refl _ _).drew)
  have hRL : ∃ Rs : List (Value → World → Prop), Rs = [K5.PureV (.pointer (some ⟨b, 0, none⟩)),
      K5.PureV (.pointer (some ⟨bx, 1, none⟩)),
      K5.PureV (.string key),
      K5.PureV (.pointer (some ⟨bx, 2, none⟩)),
      K5.PureV (.string val),
      K5.PureV (.int .i64 e1),
      K5.PureV (.pointer (some ⟨b2, 0, none⟩)),
      K5.PureV (.pointer (some ⟨bx, 1, none⟩)),
      K5.PureV (.string key),
      K5.PureV (.pointer (some ⟨bx, 2, none⟩)),
      K5.PureV (.string val),
      K5.PureV (.int .i64 free),
      K5.PureV (.int .i64 o.1),
      K5.PureV (.int .i64 e1),
      K5.PureV (.int .i64 o.1)] := ⟨_, rfl⟩
  obtain ⟨Rs, hRs⟩ := hRL
  refine K5.wp_region_st (fun k => Or2 TD TS k ∨ k = b2) trivial (K5.RL Rs) [2, 2, 2, 2, 2, 2, 2, 2, 2, 2, 2, 2, 2, 2, 2] [1, 1, 1, 1, 1, 2, 1, 1, 1, 1, 1, 1, 2, 1, 1] [] (JT TD TS TR b d nm m h A L h1 A1 L1 b2 m2 L2 z o.2.1 o.2.2 wb.heap.size) (JT.st _ _ _ _ _ _ _ _ _ _ _ _ _ _ _ _ _ _ _ _) (show Pair _ _ _ _ _ _ _ _ _ _ _ _ _ _ _ from HPb.out.below ((Below.refl _ _).drew)) (by kernel_rfl) (by kernel_rfl) (by kernel_rfl) (K5.RL.st1 (by rw [hRs]; exact K5.st1_cons (K5.PureV.st1 _) (K5.st1_cons (K5.PureV.st1 _) (K5.st1_cons (K5.PureV.st1 _) (K5.st1_cons (K5.PureV.st1 _) (K5.st1_cons (K5.PureV.st1 _) (K5.st1_cons (K5.PureV.st1 _) (K5.st1_cons (K5.PureV.st1 _) (K5.st1_cons (K5.PureV.st1 _) (K5.st1_cons (K5.PureV.st1 _) (K5.st1_cons (K5.PureV.st1 _) (K5.st1_cons (K5.PureV.st1 _) (K5.st1_cons (K5.PureV.st1 _) (K5.st1_cons (K5.PureV.st1 _) (K5.st1_cons (K5.PureV.st1 _) (K5.st1_cons (K5.PureV.st1 _) (K5.st1_nil))))))))))))))))) (K5.RL.st2 (by rw [hRs]; exact K5.st2_cons (K5.PureV.st2 _ _ _) (K5.st2_cons (K5.PureV.st2 _ _ _) (K5.st2_cons (K5.PureV.st2 _ _ _) (K5.st2_cons (K5.PureV.st2 _ _ _) (K5.st2_cons (K5.PureV.st2 _ _ _) (K5.st2_cons (K5.PureV.st2 _ _ _) (K5.st2_cons (K5.PureV.st2 _ _ _) (K5.st2_cons (K5.PureV.st2 _ _ _) (K5.st2_cons (K5.PureV.st2 _ _ _) (K5.st2_cons (K5.PureV.st2 _ _ _) (K5.st2_cons (K5.PureV.st2 _ _ _) (K5.st2_cons (K5.PureV.st2 _ _ _) (K5.st2_cons (K5.PureV.st2 _ _ _) (K5.st2_cons (K5.PureV.st2 _ _ _) (K5.st2_cons (K5.PureV.st2 _ _ _) (K5.st2_nil))))))))))))))))) ?_ ?_ ?_
  · intro i o d hi hd
    have hmem := List.mem_of_getElem? hi
    simp only [List.mem_cons, List.not_mem_nil, or_false] at hmem
    rcases hmem with rfl | rfl | rfl | rfl | rfl | rfl | rfl | rfl | rfl | rfl | rfl | rfl | rfl | rfl | rfl <;> simp at hd <;> (subst hd; simp)
  · refine K5.rel_start (Φ := K5.Hop _ _ _ _ _ _ _ _) ?_
    refine K5.rel_cons (Φ := K5.Hop _ _ _ _ _ _ _ _) (k := 0) ?_ ?_
    · intro fa fw hfB hfJ hfE hfk hft
      have k0 : fa.eval (.tmp 0) = .pointer (some ⟨b, 0, none⟩) := hft 0 (K5.mem_looks (by kernel_rfl)) (K5.noneed (by kernel_rfl))
      rw [hRs]
      refine K5.hop_plain rfl ?_
      refine K5.out_move rfl ?_
      exact ⟨k0, Below.refl _ _⟩
    refine K5.rel_cons (Φ := K5.Hop _ _ _ _ _ _ _ _) (k := 1) ?_ ?_
    · intro fa fw hfB hfJ hfE hfk hft
      have k6 : fa.eval (.tmp 6) = .pointer (some ⟨bx, 0, none⟩) := hft 6 (K5.mem_looks (by kernel_rfl)) (K5.noneed (by kernel_rfl))
      rw [hRs]
      refine K5.hop_plain rfl ?_
      have kc : ∀ v, fa.eval (.const v) = v := fun _ => rfl
      generalize fa.eval = ρ at *
      exact K5.out_run (v := .pointer (some ⟨bx, 1, none⟩)) (w' := fw) (by simp [execOp, kc, k6, go_sem]) ⟨rfl, Below.refl _ _⟩
    refine K5.rel_cons (Φ := K5.Hop _ _ _ _ _ _ _ _) (k := 2) ?_ ?_
    · intro fa fw hfB hfJ hfE hfk hft
      have k15 : fa.eval (.tmp 15) = (.pointer (some ⟨bx, 1, none⟩)) := by have := hfk 1 (K5.mem_needs (by kernel_rfl)) _ rfl; rw [hRs] at this; exact this
      rw [hRs]
      refine K5.hop_plain rfl ?_
      exact out_load5 rfl k15 (HL1.out fw (hdk.trans' hfB)) ⟨rfl, Below.refl _ _⟩
    refine K5.rel_cons (Φ := K5.Hop _ _ _ _ _ _ _ _) (k := 3) ?_ ?_
    · intro fa fw hfB hfJ hfE hfk hft
      have k6 : fa.eval (.tmp 6) = .pointer (some ⟨bx, 0, none⟩) := hft 6 (K5.mem_looks (by kernel_rfl)) (K5.noneed (by kernel_rfl))
      rw [hRs]
      refine K5.hop_plain rfl ?_
      have kc : ∀ v, fa.eval (.const v) = v := fun _ => rfl
      generalize fa.eval = ρ at *
      exact K5.out_run (v := .pointer (some ⟨bx, 2, none⟩)) (w' := fw) (by simp [execOp, kc, k6, go_sem]) ⟨rfl, Below.refl _ _⟩
    refine K5.rel_cons (Φ := K5.Hop _ _ _ _ _ _ _ _) (k := 4) ?_ ?_
    · intro fa fw hfB hfJ hfE hfk hft
      have k17 : fa.eval (.tmp 17) = (.pointer (some ⟨bx, 2, none⟩)) := by have := hfk 3 (K5.mem_needs (by kernel_rfl)) _ rfl; rw [hRs] at this; exact this
      rw [hRs]
      refine K5.hop_plain rfl ?_
      exact out_load5 rfl k17 (HL2.out fw (hdk.trans' hfB)) ⟨rfl, Below.refl _ _⟩
    refine K5.rel_cons (Φ := K5.Hop _ _ _ _ _ _ _ _) (k := 5) ?_ ?_
    · intro fa fw hfB hfJ hfE hfk hft
      have k14 : fa.eval (.tmp 14) = (.pointer (some ⟨b, 0, none⟩)) := by have := hfk 0 (K5.mem_needs (by kernel_rfl)) _ rfl; rw [hRs] at this; exact this
      have k16 : fa.eval (.tmp 16) = (.string key) := by have := hfk 2 (K5.mem_needs (by kernel_rfl)) _ rfl; rw [hRs] at this; exact this
      have k18 : fa.eval (.tmp 18) = (.string val) := by have := hfk 4 (K5.mem_needs (by kernel_rfl)) _ rfl; rw [hRs] at this; exact this
      rw [hRs]
      refine K5.hop_plain rfl ?_
      have kf : fa.eval (.func 18) = .func (.func 18) #[] #[] := rfl
      have hj : Pair TD TS TR b d nm m h A L b2 m2 L2 z fw := hfJ rfl
      refine K5.out_call (f := 18) (args := #[fa.eval (.tmp 14), fa.eval (.tmp 16), fa.eval (.tmp 18)]) (by generalize fa.eval = ρ at *; simp [execOp, kf, go_sem]) ?_
      rw [k14, k16, k18]
      refine (HC.out fw hj.kv).mono fun e w9 q => ?_
      obtain ⟨he, TD1, TS1, q1, q2, q3, q4⟩ := q
      have hsz := (hdk.trans' hfB).size
      exact ⟨_, he, rfl, q4.mono (fun k hk => .inl hk), _, _, hj.one (by rw [← HLq.out] at q1; exact q1) q2 q3 q4, fun k hk => (q2 k hk).imp id (fun x => Nat.le_trans hsz x.1), fun k hk => (q3 k hk).imp id (fun x => Nat.le_trans hsz x.1)⟩
    refine K5.rel_cons (Φ := K5.Hop _ _ _ _ _ _ _ _) (k := 6) ?_ ?_
    · intro fa fw hfB hfJ hfE hfk hft
      have k1 : fa.eval (.tmp 1) = .pointer (some ⟨b2, 0, none⟩) := hft 1 (K5.mem_looks (by kernel_rfl)) (K5.noneed (by kernel_rfl))
      rw [hRs]
      refine K5.hop_plain rfl ?_
      refine K5.out_move rfl ?_
      exact ⟨k1, Below.refl _ _⟩
    refine K5.rel_cons (Φ := K5.Hop _ _ _ _ _ _ _ _) (k := 7) ?_ ?_
    · intro fa fw hfB hfJ hfE hfk hft
      have k6 : fa.eval (.tmp 6) = .pointer (some ⟨bx, 0, none⟩) := hft 6 (K5.mem_looks (by kernel_rfl)) (K5.noneed (by kernel_rfl))
      rw [hRs]
      refine K5.hop_plain rfl ?_
      have kc : ∀ v, fa.eval (.const v) = v := fun _ => rfl
      generalize fa.eval = ρ at *
      exact K5.out_run (v := .pointer (some ⟨bx, 1, none⟩)) (w' := fw) (by simp [execOp, kc, k6, go_sem]) ⟨rfl, Below.refl _ _⟩
    refine K5.rel_cons (Φ := K5.Hop _ _ _ _ _ _ _ _) (k := 8) ?_ ?_
    · intro fa fw hfB hfJ hfE hfk hft
      have k21 : fa.eval (.tmp 21) = (.pointer (some ⟨bx, 1, none⟩)) := by have := hfk 7 (K5.mem_needs (by kernel_rfl)) _ rfl; rw [hRs] at this; exact this
      rw [hRs]
      refine K5.hop_plain rfl ?_
      exact out_load5 rfl k21 (HL1.out fw (hdk.trans' hfB)) ⟨rfl, Below.refl _ _⟩
    refine K5.rel_cons (Φ := K5.Hop _ _ _ _ _ _ _ _) (k := 9) ?_ ?_
    · intro fa fw hfB hfJ hfE hfk hft
      have k6 : fa.eval (.tmp 6) = .pointer (some ⟨bx, 0, none⟩) := hft 6 (K5.mem_looks (by kernel_rfl)) (K5.noneed (by kernel_rfl))
      rw [hRs]
      refine K5.hop_plain rfl ?_
      have kc : ∀ v, fa.eval (.const v) = v := fun _ => rfl
      generalize fa.eval = ρ at *
      exact K5.out_run (v := .pointer (some ⟨bx, 2, none⟩)) (w' := fw) (by simp [execOp, kc, k6, go_sem]) ⟨rfl, Below.refl _ _⟩
    refine K5.rel_cons (Φ := K5.Hop _ _ _ _ _ _ _ _) (k := 10) ?_ ?_
    · intro fa fw hfB hfJ hfE hfk hft
      have k23 : fa.eval (.tmp 23) = (.pointer (some ⟨bx, 2, none⟩)) := by have := hfk 9 (K5.mem_needs (by kernel_rfl)) _ rfl; rw [hRs] at this; exact this
      rw [hRs]
      refine K5.hop_plain rfl ?_
      exact out_load5 rfl k23 (HL2.out fw (hdk.trans' hfB)) ⟨rfl, Below.refl _ _⟩
    refine K5.rel_cons (Φ := K5.Hop _ _ _ _ _ _ _ _) (k := 11) ?_ ?_
    · intro fa fw hfB hfJ hfE hfk hft
      have k3 : fa.eval (.tmp 3) = .int .i64 free := hft 3 (K5.mem_looks (by kernel_rfl)) (K5.noneed (by kernel_rfl))
      rw [hRs]
      refine K5.hop_plain rfl ?_
      refine K5.out_move rfl ?_
      exact ⟨k3, Below.refl _ _⟩
    refine K5.rel_cons (Φ := K5.Hop _ _ _ _ _ _ _ _) (k := 12) ?_ ?_
    · intro fa fw hfB hfJ hfE hfk hft
      have k20 : fa.eval (.tmp 20) = (.pointer (some ⟨b2, 0, none⟩)) := by have := hfk 6 (K5.mem_needs (by kernel_rfl)) _ rfl; rw [hRs] at this; exact this
      have k22 : fa.eval (.tmp 22) = (.string key) := by have := hfk 8 (K5.mem_needs (by kernel_rfl)) _ rfl; rw [hRs] at this; exact this
      have k24 : fa.eval (.tmp 24) = (.string val) := by have := hfk 10 (K5.mem_needs (by kernel_rfl)) _ rfl; rw [hRs] at this; exact this
      have k25 : fa.eval (.tmp 25) = (.int .i64 free) := by have := hfk 11 (K5.mem_needs (by kernel_rfl)) _ rfl; rw [hRs] at this; exact this
      rw [hRs]
      refine K5.hop_plain rfl ?_
      have kf : fa.eval (.func 34) = .func (.func 34) #[] #[] := rfl
      obtain ⟨TD', TS', hj, hq1, hq2⟩ : ∃ TD' TS', Pair TD' TS' TR b d nm m h1 A1 L1 b2 m2 L2 z fw ∧ (∀ k, TD' k → TD k ∨ wb.heap.size ≤ k) ∧ (∀ k, TS' k → TS k ∨ wb.heap.size ≤ k) := hfJ rfl
      refine K5.out_call (f := 34) (args := #[fa.eval (.tmp 20), fa.eval (.tmp 22), fa.eval (.tmp 24), fa.eval (.tmp 25)]) (by generalize fa.eval = ρ at *; simp [execOp, kf, go_sem]) ?_
      rw [k20, k22, k24, k25]
      refine (HR.out fw hj.rs hj.lr).mono fun e w9 q => ?_
      obtain ⟨he, q1, q2⟩ := q
      have hsz := (hdk.trans' hfB).size
      exact ⟨_, he, rfl, q2.mono (fun k hk => .inr hk), _, _, _, hj.two q1 (q2.mono fun k hk => hk ▸ hj.rs.t), hq1, hq2, fun k hk => hk.imp id (fun x => Nat.le_trans hsz x.1)⟩
    refine K5.rel_cons (Φ := K5.Hop _ _ _ _ _ _ _ _) (k := 13) ?_ ?_
    · intro fa fw hfB hfJ hfE hfk hft
      have k19 : fa.eval (.tmp 19) = (.int .i64 e1) := by have := hfk 5 (K5.mem_needs (by kernel_rfl)) _ rfl; rw [hRs] at this; exact this
      rw [hRs]
      refine K5.hop_plain rfl ?_
      refine K5.out_assign rfl ?_
      exact ⟨k19, Below.refl _ _⟩
    refine K5.rel_cons (Φ := K5.Hop _ _ _ _ _ _ _ _) (k := 14) ?_ ?_
    · intro fa fw hfB hfJ hfE hfk hft
      have k26 : fa.eval (.tmp 26) = (.int .i64 o.1) := by have := hfk 12 (K5.mem_needs (by kernel_rfl)) _ rfl; rw [hRs] at this; exact this
      rw [hRs]
      refine K5.hop_plain rfl ?_
      refine K5.out_assign rfl ?_
      exact ⟨k26, Below.refl _ _⟩
    exact K5.rel_nil
  · intro fa fw hfB hfJ hfy hff hfs hfd
    rw [hRs] at hfy
    have k8 : fa.eval (.tmp 8) = (.int .i64 e1) := hfy 13 _ rfl (K5.unkilled (by decide))
    have k9 : fa.eval (.tmp 9) = (.int .i64 o.1) := hfy 14 _ rfl (K5.unkilled (by decide))
    obtain ⟨TD', TS', TR', hfin, hq1, hq2, hq3⟩ : ∃ TD' TS' TR', Pair TD' TS' TR' b d nm m h1 A1 L1 b2 m2 o.2.1 o.2.2 fw ∧ (∀ k, TD' k → TD k ∨ wb.heap.size ≤ k) ∧ (∀ k, TS' k → TS k ∨ wb.heap.size ≤ k) ∧ ∀ k, TR' k → TR k ∨ wb.heap.size ≤ k := hfJ
    have hbs := HBb.out.size
    have HE := Lib.hid (show DoesEnd TD TS TR b d nm m e1 h1 A1 L1 b2 m2 o w (.returned (.tuple #[.int .i64 e1, .int .i64 o.1])) fw from ⟨TD', TS', TR', rfl, hfin, fun k hk => (hq1 k hk).imp id (Nat.le_trans hbs), fun k hk => (hq2 k hk).imp id (Nat.le_trans hbs), fun k hk => (hq3 k hk).imp id (Nat.le_trans hbs), (Kept.of_below HBb.out).trans' (hdk.trans' hfB)⟩)
    clear hfin hq1 hq2 hq3 hfB hbs
    have e := K5.rel_frame [14, 15, 16, 17, 18, 19, 20, 21, 22, 23, 24, 25, 26, 8, 9] (by kernel_rfl) hff hfs hfd
    simp only [List.foldl] at e
    rw [show fa.tmps.getD 8 undef = .int .i64 e1 from k8] at e
    rw [show fa.tmps.getD 9 undef = .int .i64 o.1 from k9] at e
    clear hfy hff hfs hfd k8 k9
    generalize fa.tmps.getD 14 undef = x14 at e
    generalize fa.tmps.getD 15 undef = x15 at e
    generalize fa.tmps.getD 16 undef = x16 at e
    generalize fa.tmps.getD 17 undef = x17 at e
    generalize fa.tmps.getD 18 undef = x18 at e
    generalize fa.tmps.getD 19 undef = x19 at e
    generalize fa.tmps.getD 20 undef = x20 at e
    generalize fa.tmps.getD 21 undef = x21 at e
    generalize fa.tmps.getD 22 undef = x22 at e
    generalize fa.tmps.getD 23 undef = x23 at e
    generalize fa.tmps.getD 24 undef = x24 at e
    generalize fa.tmps.getD 25 undef = x25 at e
    generalize fa.tmps.getD 26 undef = x26 at e
    simp [List.setIfInBounds_toArray, List.set_cons_succ, List.set_cons_zero] at e
    subst e
    go_wp2_with fail
    go_ret2
    exact HE.out

set_option maxRecDepth 100000 in
set_option maxHeartbeats 4000000 in
/-- Evict on both. -/
theorem does_evict {TD TS TR : Nat → Prop} {b d b2 : Nat} {nm : ByteArray} {m m2 z : Int} {h : Hd} {A : List Ab} {L L2 : List En} {w : World} (pr : Pair TD TS TR b d nm m h A L b2 m2 L2 z w) (key val : ByteArray) (n fu kp free : Int) (tn : Bool) (r : Int × Hd × List Ab) (Lx : List En) (o : Int × List En × Int)
    (hc : ∀ fw, Kv TD TS b d nm m h A L fw → Calls Try.prog 19 #[.pointer (some ⟨b, 0, none⟩), .int .i64 n] fw (LogEnd TD TS b d nm m r L Lx fw)) (hr : ∀ fw, Rs TR b2 m2 L2 z fw → (∀ k, TR k → k < fw.heap.size) → Calls Try.prog 35 #[.pointer (some ⟨b2, 0, none⟩), .int .i64 n, .int .i64 free] fw (RsEnd TR b2 m2 o fw)) :
    Calls Try.prog 13 #[.pointer (some ⟨b, 0, none⟩), .pointer (some ⟨b2, 0, none⟩), .agg #[.int .i64 1, .string key, .string val, .int .i64 n, .int .i64 fu, .int .i64 kp, .bool tn], .int .i64 free] w (DoesEnd TD TS TR b d nm m r.1 r.2.1 r.2.2 (if r.1 = 0 then Lx else L) b2 m2 o w) := by
  have HC := Lib.hid hc
  have HR := Lib.hid hr
  obtain ⟨L1, hL1⟩ : ∃ L1, L1 = (if r.1 = 0 then Lx else L) := ⟨_, rfl⟩
  rw [← hL1]
  have HLq := Lib.hid hL1
  clear hc hr hL1
  obtain ⟨e1, h1, A1⟩ := r
  have hbx : (w.alloc (.cells #[.int .i64 1, .string key, .string val, .int .i64 n, .int .i64 fu, .int .i64 kp, .bool tn] 36)).heap[w.heap.size]? = some (.cells #[.int .i64 1, .string key, .string val, .int .i64 n, .int .i64 fu, .int .i64 kp, .bool tn] 36 (0, 0)) := heap_alloc_new _ _
  have hbb : Below w.heap.size w (w.alloc (.cells #[.int .i64 1, .string key, .string val, .int .i64 n, .int .i64 fu, .int .i64 kp, .bool tn] 36)) := (Below.refl _ _).alloc (Nat.le_refl _) _
  have c0 := block_cell hbx 0
  have Hnot := Lib.hid (show ¬ (Or2 TD TS w.heap.size ∨ w.heap.size = b2) from fun hk => by
    rcases hk with (hk | hk) | hk
    · exact absurd (pr.kv.ld _ hk) (Nat.lt_irrefl _)
    · exact absurd (pr.kv.ls _ hk) (Nat.lt_irrefl _)
    · have := pr.lr _ pr.rs.t; omega)
  have HPb := Lib.hid (pr.below hbb)
  have HBb := Lib.hid hbb
  obtain ⟨bx, hbxe⟩ : ∃ bx, bx = w.heap.size := ⟨_, rfl⟩
  rw [← hbxe] at hbx c0 Hnot
  have Hbx := Lib.hid hbx
  clear hbx hbb pr
  go_enter Try.func13, Try.ntmps13
  go_upto_region 1 with fail
  rw [← hbxe]
  have Hbe := Lib.hid hbxe
  clear hbxe
  generalize w.alloc (.cells #[.int .i64 1, .string key, .string val, .int .i64 n, .int .i64 fu, .int .i64 kp, .bool tn] 36) = wb at *
  have HL3 : Hid (∀ w9, Kept (fun k => Or2 TD TS k ∨ k = b2) wb w9 → (loadVar 3 ⟨bx, 3, none⟩).run Try.prog w9 = .ok (.int .i64 n) w9) := Lib.hid (fun w9 h9 => by have e := block_cell ((h9.block bx (lt_of_block Hbx.out) Hnot.out).trans Hbx.out) 3; simp [go_sem, e])
  go_upto_region 5 with fail
  have hdk : Kept (fun k => Or2 TD TS k ∨ k = b2) wb wb.drew := Kept.of_below ((Below.refl _ _).drew)
  have hRL : ∃ Rs : List (Value → World → Prop), Rs = [K5.PureV (.pointer (some ⟨b, 0, none⟩)),
      K5.PureV (.pointer (some ⟨bx, 3, none⟩)),
      K5.PureV (.int .i64 n),
      K5.PureV (.int .i64 e1),
      K5.PureV (.pointer (some ⟨b2, 0, none⟩)),
      K5.PureV (.pointer (some ⟨bx, 3, none⟩)),
      K5.PureV (.int .i64 n),
      K5.PureV (.int .i64 free),
      K5.PureV (.int .i64 o.1),
      K5.PureV (.int .i64 e1),
      K5.PureV (.int .i64 o.1)] := ⟨_, rfl⟩
  obtain ⟨Rs, hRs⟩ := hRL
  refine K5.wp_region_st (fun k => Or2 TD TS k ∨ k = b2) trivial (K5.RL Rs) [2, 2, 2, 2, 2, 2, 2, 2, 2, 2, 2] [1, 1, 1, 2, 1, 1, 1, 1, 2, 1, 1] [] (JT TD TS TR b d nm m h A L h1 A1 L1 b2 m2 L2 z o.2.1 o.2.2 wb.heap.size) (JT.st _ _ _ _ _ _ _ _ _ _ _ _ _ _ _ _ _ _ _ _) (show Pair _ _ _ _ _ _ _ _ _ _ _ _ _ _ _ from HPb.out.below ((Below.refl _ _).drew)) (by kernel_rfl) (by kernel_rfl) (by kernel_rfl) (K5.RL.st1 (by rw [hRs]; exact K5.st1_cons (K5.PureV.st1 _) (K5.st1_cons (K5.PureV.st1 _) (K5.st1_cons (K5.PureV.st1 _) (K5.st1_cons (K5.PureV.st1 _) (K5.st1_cons (K5.PureV.st1 _) (K5.st1_cons (K5.PureV.st1 _) (K5.st1_cons (K5.PureV.st1 _) (K5.st1_cons (K5.PureV.st1 _) (K5.st1_cons (K5.PureV.st1 _) (K5.st1_cons (K5.PureV.st1 _) (K5.st1_cons (K5.PureV.st1 _) (K5.st1_nil))))))))))))) (K5.RL.st2 (by rw [hRs]; exact K5.st2_cons (K5.PureV.st2 _ _ _) (K5.st2_cons (K5.PureV.st2 _ _ _) (K5.st2_cons (K5.PureV.st2 _ _ _) (K5.st2_cons (K5.PureV.st2 _ _ _) (K5.st2_cons (K5.PureV.st2 _ _ _) (K5.st2_cons (K5.PureV.st2 _ _ _) (K5.st2_cons (K5.PureV.st2 _ _ _) (K5.st2_cons (K5.PureV.st2 _ _ _) (K5.st2_cons (K5.PureV.st2 _ _ _) (K5.st2_cons (K5.PureV.st2 _ _ _) (K5.st2_cons (K5.PureV.st2 _ _ _) (K5.st2_nil))))))))))))) ?_ ?_ ?_
  · intro i o d hi hd
    have hmem := List.mem_of_getElem? hi
    simp only [List.mem_cons, List.not_mem_nil, or_false] at hmem
    rcases hmem with rfl | rfl | rfl | rfl | rfl | rfl | rfl | rfl | rfl | rfl | rfl <;> simp at hd <;> (subst hd; simp)
  · refine K5.rel_start (Φ := K5.Hop _ _ _ _ _ _ _ _) ?_
    refine K5.rel_cons (Φ := K5.Hop _ _ _ _ _ _ _ _) (k := 0) ?_ ?_
    · intro fa fw hfB hfJ hfE hfk hft
      have k0 : fa.eval (.tmp 0) = .pointer (some ⟨b, 0, none⟩) := hft 0 (K5.mem_looks (by kernel_rfl)) (K5.noneed (by kernel_rfl))
      rw [hRs]
      refine K5.hop_plain rfl ?_
      refine K5.out_move rfl ?_
      exact ⟨k0, Below.refl _ _⟩
    refine K5.rel_cons (Φ := K5.Hop _ _ _ _ _ _ _ _) (k := 1) ?_ ?_
    · intro fa fw hfB hfJ hfE hfk hft
      have k6 : fa.eval (.tmp 6) = .pointer (some ⟨bx, 0, none⟩) := hft 6 (K5.mem_looks (by kernel_rfl)) (K5.noneed (by kernel_rfl))
      rw [hRs]
      refine K5.hop_plain rfl ?_
      have kc : ∀ v, fa.eval (.const v) = v := fun _ => rfl
      generalize fa.eval = ρ at *
      exact K5.out_run (v := .pointer (some ⟨bx, 3, none⟩)) (w' := fw) (by simp [execOp, kc, k6, go_sem]) ⟨rfl, Below.refl _ _⟩
    refine K5.rel_cons (Φ := K5.Hop _ _ _ _ _ _ _ _) (k := 2) ?_ ?_
    · intro fa fw hfB hfJ hfE hfk hft
      have k30 : fa.eval (.tmp 30) = (.pointer (some ⟨bx, 3, none⟩)) := by have := hfk 1 (K5.mem_needs (by kernel_rfl)) _ rfl; rw [hRs] at this; exact this
      rw [hRs]
      refine K5.hop_plain rfl ?_
      exact out_load5 rfl k30 (HL3.out fw (hdk.trans' hfB)) ⟨rfl, Below.refl _ _⟩
    refine K5.rel_cons (Φ := K5.Hop _ _ _ _ _ _ _ _) (k := 3) ?_ ?_
    · intro fa fw hfB hfJ hfE hfk hft
      have k29 : fa.eval (.tmp 29) = (.pointer (some ⟨b, 0, none⟩)) := by have := hfk 0 (K5.mem_needs (by kernel_rfl)) _ rfl; rw [hRs] at this; exact this
      have k31 : fa.eval (.tmp 31) = (.int .i64 n) := by have := hfk 2 (K5.mem_needs (by kernel_rfl)) _ rfl; rw [hRs] at this; exact this
      rw [hRs]
      refine K5.hop_plain rfl ?_
      have kf : fa.eval (.func 19) = .func (.func 19) #[] #[] := rfl
      have hj : Pair TD TS TR b d nm m h A L b2 m2 L2 z fw := hfJ rfl
      refine K5.out_call (f := 19) (args := #[fa.eval (.tmp 29), fa.eval (.tmp 31)]) (by generalize fa.eval = ρ at *; simp [execOp, kf, go_sem]) ?_
      rw [k29, k31]
      refine (HC.out fw hj.kv).mono fun e w9 q => ?_
      obtain ⟨he, TD1, TS1, q1, q2, q3, q4⟩ := q
      have hsz := (hdk.trans' hfB).size
      exact ⟨_, he, rfl, q4.mono (fun k hk => .inl hk), _, _, hj.one (by rw [← HLq.out] at q1; exact q1) q2 q3 q4, fun k hk => (q2 k hk).imp id (fun x => Nat.le_trans hsz x.1), fun k hk => (q3 k hk).imp id (fun x => Nat.le_trans hsz x.1)⟩
    refine K5.rel_cons (Φ := K5.Hop _ _ _ _ _ _ _ _) (k := 4) ?_ ?_
    · intro fa fw hfB hfJ hfE hfk hft
      have k1 : fa.eval (.tmp 1) = .pointer (some ⟨b2, 0, none⟩) := hft 1 (K5.mem_looks (by kernel_rfl)) (K5.noneed (by kernel_rfl))
      rw [hRs]
      refine K5.hop_plain rfl ?_
      refine K5.out_move rfl ?_
      exact ⟨k1, Below.refl _ _⟩
    refine K5.rel_cons (Φ := K5.Hop _ _ _ _ _ _ _ _) (k := 5) ?_ ?_
    · intro fa fw hfB hfJ hfE hfk hft
      have k6 : fa.eval (.tmp 6) = .pointer (some ⟨bx, 0, none⟩) := hft 6 (K5.mem_looks (by kernel_rfl)) (K5.noneed (by kernel_rfl))
      rw [hRs]
      refine K5.hop_plain rfl ?_
      have kc : ∀ v, fa.eval (.const v) = v := fun _ => rfl
      generalize fa.eval = ρ at *
      exact K5.out_run (v := .pointer (some ⟨bx, 3, none⟩)) (w' := fw) (by simp [execOp, kc, k6, go_sem]) ⟨rfl, Below.refl _ _⟩
    refine K5.rel_cons (Φ := K5.Hop _ _ _ _ _ _ _ _) (k := 6) ?_ ?_
    · intro fa fw hfB hfJ hfE hfk hft
      have k34 : fa.eval (.tmp 34) = (.pointer (some ⟨bx, 3, none⟩)) := by have := hfk 5 (K5.mem_needs (by kernel_rfl)) _ rfl; rw [hRs] at this; exact this
      rw [hRs]
      refine K5.hop_plain rfl ?_
      exact out_load5 rfl k34 (HL3.out fw (hdk.trans' hfB)) ⟨rfl, Below.refl _ _⟩
    refine K5.rel_cons (Φ := K5.Hop _ _ _ _ _ _ _ _) (k := 7) ?_ ?_
    · intro fa fw hfB hfJ hfE hfk hft
      have k3 : fa.eval (.tmp 3) = .int .i64 free := hft 3 (K5.mem_looks (by kernel_rfl)) (K5.noneed (by kernel_rfl))
      rw [hRs]
      refine K5.hop_plain rfl ?_
      refine K5.out_move rfl ?_
      exact ⟨k3, Below.refl _ _⟩
    refine K5.rel_cons (Φ := K5.Hop _ _ _ _ _ _ _ _) (k := 8) ?_ ?_
    · intro fa fw hfB hfJ hfE hfk hft
      have k33 : fa.eval (.tmp 33) = (.pointer (some ⟨b2, 0, none⟩)) := by have := hfk 4 (K5.mem_needs (by kernel_rfl)) _ rfl; rw [hRs] at this; exact this
      have k35 : fa.eval (.tmp 35) = (.int .i64 n) := by have := hfk 6 (K5.mem_needs (by kernel_rfl)) _ rfl; rw [hRs] at this; exact this
      have k36 : fa.eval (.tmp 36) = (.int .i64 free) := by have := hfk 7 (K5.mem_needs (by kernel_rfl)) _ rfl; rw [hRs] at this; exact this
      rw [hRs]
      refine K5.hop_plain rfl ?_
      have kf : fa.eval (.func 35) = .func (.func 35) #[] #[] := rfl
      obtain ⟨TD', TS', hj, hq1, hq2⟩ : ∃ TD' TS', Pair TD' TS' TR b d nm m h1 A1 L1 b2 m2 L2 z fw ∧ (∀ k, TD' k → TD k ∨ wb.heap.size ≤ k) ∧ (∀ k, TS' k → TS k ∨ wb.heap.size ≤ k) := hfJ rfl
      refine K5.out_call (f := 35) (args := #[fa.eval (.tmp 33), fa.eval (.tmp 35), fa.eval (.tmp 36)]) (by generalize fa.eval = ρ at *; simp [execOp, kf, go_sem]) ?_
      rw [k33, k35, k36]
      refine (HR.out fw hj.rs hj.lr).mono fun e w9 q => ?_
      obtain ⟨he, q1, q2⟩ := q
      have hsz := (hdk.trans' hfB).size
      exact ⟨_, he, rfl, q2.mono (fun k hk => .inr hk), _, _, _, hj.two q1 (q2.mono fun k hk => hk ▸ hj.rs.t), hq1, hq2, fun k hk => hk.imp id (fun x => Nat.le_trans hsz x.1)⟩
    refine K5.rel_cons (Φ := K5.Hop _ _ _ _ _ _ _ _) (k := 9) ?_ ?_
    · intro fa fw hfB hfJ hfE hfk hft
      have k32 : fa.eval (.tmp 32) = (.int .i64 e1) := by have := hfk 3 (K5.mem_needs (by kernel_rfl)) _ rfl; rw [hRs] at this; exact this
      rw [hRs]
      refine K5.hop_plain rfl ?_
      refine K5.out_assign rfl ?_
      exact ⟨k32, Below.refl _ _⟩
    refine K5.rel_cons (Φ := K5.Hop _ _ _ _ _ _ _ _) (k := 10) ?_ ?_
    · intro fa fw hfB hfJ hfE hfk hft
      have k37 : fa.eval (.tmp 37) = (.int .i64 o.1) := by have := hfk 8 (K5.mem_needs (by kernel_rfl)) _ rfl; rw [hRs] at this; exact this
      rw [hRs]
      refine K5.hop_plain rfl ?_
      refine K5.out_assign rfl ?_
      exact ⟨k37, Below.refl _ _⟩
    exact K5.rel_nil
  · intro fa fw hfB hfJ hfy hff hfs hfd
    rw [hRs] at hfy
    have k8 : fa.eval (.tmp 8) = (.int .i64 e1) := hfy 9 _ rfl (K5.unkilled (by decide))
    have k9 : fa.eval (.tmp 9) = (.int .i64 o.1) := hfy 10 _ rfl (K5.unkilled (by decide))
    obtain ⟨TD', TS', TR', hfin, hq1, hq2, hq3⟩ : ∃ TD' TS' TR', Pair TD' TS' TR' b d nm m h1 A1 L1 b2 m2 o.2.1 o.2.2 fw ∧ (∀ k, TD' k → TD k ∨ wb.heap.size ≤ k) ∧ (∀ k, TS' k → TS k ∨ wb.heap.size ≤ k) ∧ ∀ k, TR' k → TR k ∨ wb.heap.size ≤ k := hfJ
    have hbs := HBb.out.size
    have HE := Lib.hid (show DoesEnd TD TS TR b d nm m e1 h1 A1 L1 b2 m2 o w (.returned (.tuple #[.int .i64 e1, .int .i64 o.1])) fw from ⟨TD', TS', TR', rfl, hfin, fun k hk => (hq1 k hk).imp id (Nat.le_trans hbs), fun k hk => (hq2 k hk).imp id (Nat.le_trans hbs), fun k hk => (hq3 k hk).imp id (Nat.le_trans hbs), (Kept.of_below HBb.out).trans' (hdk.trans' hfB)⟩)
    clear hfin hq1 hq2 hq3 hfB hbs
    have e := K5.rel_frame [29, 30, 31, 32, 33, 34, 35, 36, 37, 8, 9] (by kernel_rfl) hff hfs hfd
    simp only [List.foldl] at e
    rw [show fa.tmps.getD 8 undef = .int .i64 e1 from k8] at e
    rw [show fa.tmps.getD 9 undef = .int .i64 o.1 from k9] at e
    clear hfy hff hfs hfd k8 k9
    generalize fa.tmps.getD 29 undef = x29 at e
    generalize fa.tmps.getD 30 undef = x30 at e
    generalize fa.tmps.getD 31 undef = x31 at e
    generalize fa.tmps.getD 32 undef = x32 at e
    generalize fa.tmps.getD 33 undef = x33 at e
    generalize fa.tmps.getD 34 undef = x34 at e
    generalize fa.tmps.getD 35 undef = x35 at e
    generalize fa.tmps.getD 36 undef = x36 at e
    generalize fa.tmps.getD 37 undef = x37 at e
    simp [List.setIfInBounds_toArray, List.set_cons_succ, List.set_cons_zero] at e
    subst e
    go_wp2_with fail
    go_ret2
    exact HE.out

set_option maxRecDepth 100000 in
set_option maxHeartbeats 4000000 in
/-- Compact on both. -/
theorem does_compact {TD TS TR : Nat → Prop} {b d b2 : Nat} {nm : ByteArray} {m m2 z : Int} {h : Hd} {A : List Ab} {L L2 : List En} {w : World} (pr : Pair TD TS TR b d nm m h A L b2 m2 L2 z w) (key val : ByteArray) (n fu kp free : Int) (tn : Bool) (r : Int × Hd × List Ab) (Lx : List En) (o : Int × List En × Int)
    (hc : ∀ fw, Kv TD TS b d nm m h A L fw → Calls Try.prog 21 #[.pointer (some ⟨b, 0, none⟩)] fw (LogEnd TD TS b d nm m r L Lx fw)) (hr : ∀ fw, Rs TR b2 m2 L2 z fw → (∀ k, TR k → k < fw.heap.size) → Calls Try.prog 36 #[.pointer (some ⟨b2, 0, none⟩), .int .i64 free] fw (RsEnd TR b2 m2 o fw)) :
    Calls Try.prog 13 #[.pointer (some ⟨b, 0, none⟩), .pointer (some ⟨b2, 0, none⟩), .agg #[.int .i64 3, .string key, .string val, .int .i64 n, .int .i64 fu, .int .i64 kp, .bool tn], .int .i64 free] w (DoesEnd TD TS TR b d nm m r.1 r.2.1 r.2.2 (if r.1 = 0 then Lx else L) b2 m2 o w) := by
  have HC := Lib.hid hc
  have HR := Lib.hid hr
  obtain ⟨L1, hL1⟩ : ∃ L1, L1 = (if r.1 = 0 then Lx else L) := ⟨_, rfl⟩
  rw [← hL1]
  have HLq := Lib.hid hL1
  clear hc hr hL1
  obtain ⟨e1, h1, A1⟩ := r
  have hbx : (w.alloc (.cells #[.int .i64 3, .string key, .string val, .int .i64 n, .int .i64 fu, .int .i64 kp, .bool tn] 36)).heap[w.heap.size]? = some (.cells #[.int .i64 3, .string key, .string val, .int .i64 n, .int .i64 fu, .int .i64 kp, .bool tn] 36 (0, 0)) := heap_alloc_new _ _
  have hbb : Below w.heap.size w (w.alloc (.cells #[.int .i64 3, .string key, .string val, .int .i64 n, .int .i64 fu, .int .i64 kp, .bool tn] 36)) := (Below.refl _ _).alloc (Nat.le_refl _) _
  have c0 := block_cell hbx 0
  have Hnot := Lib.hid (show ¬ (Or2 TD TS w.heap.size ∨ w.heap.size = b2) from fun hk => by
    rcases hk with (hk | hk) | hk
    · exact absurd (pr.kv.ld _ hk) (Nat.lt_irrefl _)
    · exact absurd (pr.kv.ls _ hk) (Nat.lt_irrefl _)
    · have := pr.lr _ pr.rs.t; omega)
  have HPb := Lib.hid (pr.below hbb)
  have HBb := Lib.hid hbb
  obtain ⟨bx, hbxe⟩ : ∃ bx, bx = w.heap.size := ⟨_, rfl⟩
  rw [← hbxe] at hbx c0 Hnot
  have Hbx := Lib.hid hbx
  clear hbx hbb pr
  go_enter Try.func13, Try.ntmps13
  go_upto_region 1 with fail
  rw [← hbxe]
  have Hbe := Lib.hid hbxe
  clear hbxe
  generalize w.alloc (.cells #[.int .i64 3, .string key, .string val, .int .i64 n, .int .i64 fu, .int .i64 kp, .bool tn] 36) = wb at *
  go_wp2_with fail
  refine (HC.out wb HPb.out.kv).mono ?_
  rintro e w1 ⟨he, TD1, TS1, q1, q2, q3, q4⟩
  dsimp only at he q1
  rw [← HLq.out] at q1
  have HP1 := Lib.hid (HPb.out.one q1 q2 q3 q4)
  have HQ := Lib.hid (show (∀ k, TD1 k → TD k ∨ w.heap.size ≤ k) ∧ (∀ k, TS1 k → TS k ∨ w.heap.size ≤ k) ∧ Kept (Or2 TD TS) wb w1 from ⟨fun k hk => (q2 k hk).imp id (fun x => Nat.le_trans HBb.out.size x.1), fun k hk => (q3 k hk).imp id (fun x => Nat.le_trans HBb.out.size x.1), q4⟩)
  subst he
  clear q1 q2 q3 q4
  go_wp2_with fail
  refine (HR.out w1 HP1.out.rs HP1.out.lr).mono ?_
  rintro e w2 ⟨he, q1, q2⟩
  subst he
  have HE := Lib.hid (show DoesEnd TD TS TR b d nm m e1 h1 A1 L1 b2 m2 o w (.returned (.tuple #[.int .i64 e1, .int .i64 o.1])) w2 from ⟨TD1, TS1, _, rfl, HP1.out.two q1 (q2.mono fun k hk => hk ▸ HP1.out.rs.t), HQ.out.1, HQ.out.2.1, fun k hk => hk.imp id (fun x => Nat.le_trans (Nat.le_trans HBb.out.size HQ.out.2.2.size) x.1), ((Kept.of_below HBb.out).trans' (HQ.out.2.2.mono fun k hk => .inl hk)).trans' (q2.mono fun k hk => .inr hk)⟩)
  clear q1 q2
  go_wp2_with fail
  go_ret2
  exact HE.out

set_option maxRecDepth 100000 in
set_option maxHeartbeats 4000000 in
/-- Sync. -/
theorem does_sync {TD TS TR : Nat → Prop} {b d b2 : Nat} {nm : ByteArray} {m m2 z : Int} {h : Hd} {A : List Ab} {L L2 : List En} {w : World} (pr : Pair TD TS TR b d nm m h A L b2 m2 L2 z w) (key val : ByteArray) (n fu kp free : Int) (tn : Bool) (r : Int × Hd × List Ab) (Lx : List En)
    (hc : ∀ fw, Kv TD TS b d nm m h A L fw → Calls Try.prog 20 #[.pointer (some ⟨b, 0, none⟩)] fw (LogEnd TD TS b d nm m r L Lx fw)) :
    Calls Try.prog 13 #[.pointer (some ⟨b, 0, none⟩), .pointer (some ⟨b2, 0, none⟩), .agg #[.int .i64 2, .string key, .string val, .int .i64 n, .int .i64 fu, .int .i64 kp, .bool tn], .int .i64 free] w (DoesEnd TD TS TR b d nm m r.1 r.2.1 r.2.2 (if r.1 = 0 then Lx else L) b2 m2 (0, L2, z) w) := by
  have HC := Lib.hid hc
  obtain ⟨L1, hL1⟩ : ∃ L1, L1 = (if r.1 = 0 then Lx else L) := ⟨_, rfl⟩
  rw [← hL1]
  have HLq := Lib.hid hL1
  clear hc hL1
  obtain ⟨e1, h1, A1⟩ := r
  have hbx : (w.alloc (.cells #[.int .i64 2, .string key, .string val, .int .i64 n, .int .i64 fu, .int .i64 kp, .bool tn] 36)).heap[w.heap.size]? = some (.cells #[.int .i64 2, .string key, .string val, .int .i64 n, .int .i64 fu, .int .i64 kp, .bool tn] 36 (0, 0)) := heap_alloc_new _ _
  have hbb : Below w.heap.size w (w.alloc (.cells #[.int .i64 2, .string key, .string val, .int .i64 n, .int .i64 fu, .int .i64 kp, .bool tn] 36)) := (Below.refl _ _).alloc (Nat.le_refl _) _
  have c0 := block_cell hbx 0
  have Hnot := Lib.hid (show ¬ (Or2 TD TS w.heap.size ∨ w.heap.size = b2) from fun hk => by
    rcases hk with (hk | hk) | hk
    · exact absurd (pr.kv.ld _ hk) (Nat.lt_irrefl _)
    · exact absurd (pr.kv.ls _ hk) (Nat.lt_irrefl _)
    · have := pr.lr _ pr.rs.t; omega)
  have HPb := Lib.hid (pr.below hbb)
  have HBb := Lib.hid hbb
  obtain ⟨bx, hbxe⟩ : ∃ bx, bx = w.heap.size := ⟨_, rfl⟩
  rw [← hbxe] at hbx c0 Hnot
  have Hbx := Lib.hid hbx
  clear hbx hbb pr
  go_enter Try.func13, Try.ntmps13
  go_upto_region 1 with fail
  rw [← hbxe]
  have Hbe := Lib.hid hbxe
  clear hbxe
  generalize w.alloc (.cells #[.int .i64 2, .string key, .string val, .int .i64 n, .int .i64 fu, .int .i64 kp, .bool tn] 36) = wb at *
  go_wp2_with fail
  refine (HC.out wb HPb.out.kv).mono ?_
  rintro e w1 ⟨he, TD1, TS1, q1, q2, q3, q4⟩
  dsimp only at he q1
  rw [← HLq.out] at q1
  have HP1 := Lib.hid (HPb.out.one q1 q2 q3 q4)
  have HQ := Lib.hid (show (∀ k, TD1 k → TD k ∨ w.heap.size ≤ k) ∧ (∀ k, TS1 k → TS k ∨ w.heap.size ≤ k) ∧ Kept (Or2 TD TS) wb w1 from ⟨fun k hk => (q2 k hk).imp id (fun x => Nat.le_trans HBb.out.size x.1), fun k hk => (q3 k hk).imp id (fun x => Nat.le_trans HBb.out.size x.1), q4⟩)
  subst he
  clear q1 q2 q3 q4
  have HE := Lib.hid (show DoesEnd TD TS TR b d nm m e1 h1 A1 L1 b2 m2 (0, L2, z) w (.returned (.tuple #[.int .i64 e1, .int .i64 0])) w1 from ⟨TD1, TS1, TR, rfl, HP1.out, HQ.out.1, HQ.out.2.1, fun k hk => .inl hk, (Kept.of_below HBb.out).trans' (HQ.out.2.2.mono fun k hk => .inl hk)⟩)
  go_wp2_with fail
  go_ret2
  exact HE.out

set_option maxRecDepth 100000 in
set_option maxHeartbeats 2000000 in
/-- No call of these. -/
theorem does_none {TD TS TR : Nat → Prop} {b d b2 : Nat} {nm : ByteArray} {m m2 z : Int} {h : Hd} {A : List Ab} {L L2 : List En} {w : World} (pr : Pair TD TS TR b d nm m h A L b2 m2 L2 z w) (kd : Int) (hk : kd ≠ 0 ∧ kd ≠ 1 ∧ kd ≠ 2 ∧ kd ≠ 3) (key val : ByteArray) (n fu kp free : Int) (tn : Bool) :
    Calls Try.prog 13 #[.pointer (some ⟨b, 0, none⟩), .pointer (some ⟨b2, 0, none⟩), .agg #[.int .i64 kd, .string key, .string val, .int .i64 n, .int .i64 fu, .int .i64 kp, .bool tn], .int .i64 free] w (DoesEnd TD TS TR b d nm m 0 h A L b2 m2 (0, L2, z) w) := by
  have hbb : Below w.heap.size w (w.alloc (.cells #[.int .i64 kd, .string key, .string val, .int .i64 n, .int .i64 fu, .int .i64 kp, .bool tn] 36)) := (Below.refl _ _).alloc (Nat.le_refl _) _
  have k0 : (kd == 0) = false := beq_eq_false_iff_ne.2 hk.1
  have k1 : (kd == 1) = false := beq_eq_false_iff_ne.2 hk.2.1
  have k2 : (kd == 2) = false := beq_eq_false_iff_ne.2 hk.2.2.1
  have k3 : (kd == 3) = false := beq_eq_false_iff_ne.2 hk.2.2.2
  have HE := Lib.hid (show DoesEnd TD TS TR b d nm m 0 h A L b2 m2 (0, L2, z) w (.returned (.tuple #[.int .i64 0, .int .i64 0])) (w.alloc (.cells #[.int .i64 kd, .string key, .string val, .int .i64 n, .int .i64 fu, .int .i64 kp, .bool tn] 36)) from ⟨TD, TS, TR, rfl, pr.below hbb, fun k hk => .inl hk, fun k hk => .inl hk, fun k hk => .inl hk, Kept.of_below hbb⟩)
  clear hk pr hbb
  go_enter Try.func13, Try.ntmps13
  go_wp2_with fail
  go_ret2
  exact HE.out
end Go.Proofs.Ytbdlmdmbaajcmaa
