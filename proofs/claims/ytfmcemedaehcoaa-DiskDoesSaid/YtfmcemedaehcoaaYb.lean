/- A call on both devices: does. -/
import Derived.Test.YtfmcemedaehcoaaYa
import Derived.Test.YtfmcemedaehcoaaKy
namespace Go.Proofs.Ytfmcemedaehcoaa
set_option linter.unusedVariables false
set_option linter.unusedSimpArgs false
open Go.ChangeShapes Go.WideShapes Go.ChangeAt Go.RowKit Go.ChangeMaps

theorem out_load5 {P : Program} {o : Oper} {ρ : Operand → Value} {w : World} {φ : Value → World → Prop} {ty : TypeId} {x : Operand} {p : Addr} {v : Value} (ho : o.op = .load ty x) (hx : ρ x = .pointer (some p)) (hr : (loadVar ty p).run P w = .ok v w) (hφ : φ v w) : K5.Out P o ρ w φ := by
  refine K5.out_run (v := v) (w' := w) ?_ hφ
  unfold execOp
  simp only [ho, hx, Instr.loadAt, Instr.sureAddr, Sem.run_bind, Sem.run_pure, Result.andThen_ok, hr]
/-- Two devices, each in blocks of its own. -/
structure PairT (base : Nat) (T1 T2 : Nat → Prop) (d m : Nat) (h h' : Hd) (A A' : List Ab) (w : World) : Prop where
  c : DV T1 d h A w
  r : RV T2 m h' A' w
  b1 : ∀ k, T1 k → base ≤ k ∧ k < w.heap.size
  b2 : ∀ k, T2 k → base ≤ k ∧ k < w.heap.size
  dj : ∀ k, T1 k → ¬ T2 k
  bs : base ≤ w.heap.size
section
variable {base : Nat} {T1 T2 : Nat → Prop} {d m : Nat} {h h' : Hd} {A A' : List Ab} {w w' : World}
theorem PairT.below (p : PairT base T1 T2 d m h h' A A' w) (hB : Below w.heap.size w w') : PairT base T1 T2 d m h h' A A' w' :=
  ⟨p.c.below hB, p.r.below hB, fun k hk => ⟨(p.b1 k hk).1, Nat.lt_of_lt_of_le (p.b1 k hk).2 hB.size⟩, fun k hk => ⟨(p.b2 k hk).1, Nat.lt_of_lt_of_le (p.b2 k hk).2 hB.size⟩, p.dj, Nat.le_trans p.bs hB.size⟩
theorem PairT.one (p : PairT base T1 T2 d m h h' A A' w) {h1 : Hd} {A1 : List Ab} (c : DV (Gr T1 w w') d h1 A1 w') (k : Kept T1 w w') : PairT base (Gr T1 w w') T2 d m h1 h' A1 A' w' := by
  have hb1 := p.bs
  refine ⟨c, p.r.kept k (fun k hk => (p.b2 k hk).2) (fun k hk hk1 => p.dj k hk1 hk), fun j hj => ?_, fun j hj => ⟨(p.b2 j hj).1, Nat.lt_of_lt_of_le (p.b2 j hj).2 k.size⟩, fun j hj hj2 => ?_, Nat.le_trans p.bs k.size⟩
  · rcases hj with hj | hj
    · exact ⟨(p.b1 j hj).1, Nat.lt_of_lt_of_le (p.b1 j hj).2 k.size⟩
    · exact ⟨by omega, hj.2⟩
  · rcases hj with hj | hj
    · exact p.dj j hj hj2
    · have := (p.b2 j hj2).2; omega
theorem PairT.two (p : PairT base T1 T2 d m h h' A A' w) {h1 : Hd} {A1 : List Ab} (c : RV (Gr T2 w w') m h1 A1 w') (k : Kept T2 w w') : PairT base T1 (Gr T2 w w') d m h h1 A A1 w' := by
  have hb1 := p.bs
  refine ⟨p.c.kept k p.dj, c, fun j hj => ⟨(p.b1 j hj).1, Nat.lt_of_lt_of_le (p.b1 j hj).2 k.size⟩, fun j hj => ?_, fun j hj hj2 => ?_, Nat.le_trans p.bs k.size⟩
  · rcases hj with hj | hj
    · exact ⟨(p.b2 j hj).1, Nat.lt_of_lt_of_le (p.b2 j hj).2 k.size⟩
    · exact ⟨by omega, hj.2⟩
  · rcases hj2 with hj2 | hj2
    · exact p.dj j hj hj2
    · have := (p.b1 j hj).2; omega
end
/-- What becomes of two devices in a region: before, between the calls, behind them. -/
def JT (base N : Nat) (T1 T2 : Nat → Prop) (d m : Nat) (h h' h1 h1' : Hd) (A A' A1 A1' : List Ab) : Nat → World → Prop
  | 0, w => PairT base T1 T2 d m h h' A A' w
  | 1, w => ∃ T1', PairT base T1' T2 d m h1 h' A1 A' w ∧ ∀ k, T1' k → T1 k ∨ N ≤ k
  | _, w => ∃ T1' T2', PairT base T1' T2' d m h1 h1' A1 A1' w ∧ (∀ k, T1' k → T1 k ∨ N ≤ k) ∧ ∀ k, T2' k → T2 k ∨ N ≤ k
theorem JT.st (base N : Nat) (T1 T2 : Nat → Prop) (d m : Nat) (h h' h1 h1' : Hd) (A A' A1 A1' : List Ab) : ∀ c w1 w2, JT base N T1 T2 d m h h' h1 h1' A A' A1 A1' c w1 → Below w1.heap.size w1 w2 → JT base N T1 T2 d m h h' h1 h1' A A' A1 A1' c w2
  | 0, _, _, p, hB => PairT.below p hB
  | 1, _, _, ⟨T, p, q⟩, hB => ⟨T, p.below hB, q⟩
  | _ + 2, _, _, ⟨T, T', p, q⟩, hB => ⟨T, T', p.below hB, q⟩
structure Cl where
  kind : Int
  a : ByteArray
  z : ByteArray
  n : Int
  keep : Int
  torn : Bool
  u : Value
  bs : List UInt8
def clV (c : Cl) : List Value := [.int .i64 c.kind, .string c.a, .string c.z, .int .i64 c.n, .int .i64 c.keep, .bool c.torn, c.u]
/-- What a call makes of the code's device. -/
def goC (c : Cl) (h : Hd) (A : List Ab) : Hd × List Ab :=
  if c.kind = 0 then (stepA h A (apdA A c.a c.bs) (if readyE h c.a ≠ 0 then readyE h c.a else if h.room - (totA A : Nat) < (c.bs.length : Nat) then 6 else 0) 0).2
  else if c.kind = 2 then (stepA h A (synA A c.a) (findA h A c.a) 2).2
  else if c.kind = 3 then (stepA h A (cutA A c.a c.n.toNat) (if findA h A c.a ≠ 0 then findA h A c.a else if c.n < 0 then 1 else 0) 1).2
  else if c.kind = 4 then (stepA h A (renA A c.a c.z) (if findA h A c.a ≠ 0 then findA h A c.a else if goodN c.z = true then 0 else 1) 1).2
  else if c.kind = 5 then (stepA h A (drpA A c.a) (findA h A c.a) 1).2
  else if c.kind = 6 then ((if h.down = true then h else offH h), (if h.down = true then A else A.map (loseA c.n c.torn)))
  else if c.kind = 7 then ({ h with down := false }, A)
  else if c.kind = 8 then ({ h with left := max c.n 0, keep := c.keep, torn := c.torn }, A)
  else (h, A)
theorem Byt.sub {U U' : Nat → Prop} {w : World} {u : Value} {c : List UInt8} (h : Byt U w u c) (hs : ∀ k, U' k → U k) : Byt U' w u c := ⟨fun w1 hk => h.a w1 (hk.mono hs)⟩
def DoesR (base : Nat) (T1 T2 : Nat → Prop) (d m i : Nat) (r : Hd × List Ab) (w : World) (e : Ending) (w' : World) : Prop :=
  e = .returned (.bool true) ∧ ∃ T1' T2' h1' A1', PairT base T1' T2' d m r.1 h1' r.2 A1' w' ∧ Rel (i + 1) r.1 h1' r.2 A1' ∧ Kept (fun k => T1 k ∨ T2 k) w w' ∧ (∀ k, T1' k → T1 k ∨ w.heap.size ≤ k) ∧ ∀ k, T2' k → T2 k ∨ w.heap.size ≤ k
structure ClOk (U : Nat → Prop) (w : World) (c : Cl) : Prop where
  n : -9223372036854775808 ≤ c.n ∧ c.n ≤ 9223372036854775807
  k : -9223372036854775808 ≤ c.keep ∧ c.keep ≤ 9223372036854775807
  a : c.a.size ≤ 16384
  b : Byt U w c.u c.bs
  l : c.bs.length ≤ 16384
set_option maxRecDepth 100000 in
set_option maxHeartbeats 4000000 in
theorem does_draw (kd : Int) (hkd : kd = 0 ∨ kd = 2 ∨ kd = 3 ∨ kd = 4 ∨ kd = 5) {base i : Nat} {T1 T2 : Nat → Prop} {d m : Nat} {h h' : Hd} {A A' : List Ab} {w : World} (P : PairT base T1 T2 d m h h' A A' w) (rl : Rel i h h' A A') (hi : i ≤ 1000) (x z : ByteArray) (n k : Int) (t : Bool) (u : Value) (bs : List UInt8) (hok : ClOk (fun k => T1 k ∨ T2 k) w ⟨kd, x, z, n, k, t, u, bs⟩) (r : Hd × List Ab) (hr : r = goC ⟨kd, x, z, n, k, t, u, bs⟩ h A) :
    Calls Try.prog 14 #[.pointer (some ⟨d, 0, none⟩), .pointer (some ⟨m, 0, none⟩), .agg #[.int .i64 kd, .string x, .string z, .int .i64 n, .int .i64 k, .bool t, u]] w (DoesR base T1 T2 d m i r w) := by
  obtain ⟨pu, cu, hu0⟩ := hok.b.slice
  have hu : u = .slice pu bs.length cu := hu0
  clear hu0
  subst hu
  obtain ⟨ok1, ok2, ok3, ok4⟩ := rl.ok hi
  have hxs : x.size ≤ 16384 := hok.a
  have hbl : bs.length ≤ 16384 := hok.l
  have hnr : -9223372036854775808 ≤ n ∧ n ≤ 9223372036854775807 := hok.n
  have HOk := Lib.hid hok
  have hbx : (w.alloc (.cells #[.int .i64 kd, .string x, .string z, .int .i64 n, .int .i64 k, .bool t, .slice pu bs.length cu] 31)).heap[w.heap.size]? = some (.cells #[.int .i64 kd, .string x, .string z, .int .i64 n, .int .i64 k, .bool t, .slice pu bs.length cu] 31 (0, 0)) := heap_alloc_new _ _
  have hbb : Below w.heap.size w (w.alloc (.cells #[.int .i64 kd, .string x, .string z, .int .i64 n, .int .i64 k, .bool t, .slice pu bs.length cu] 31)) := (Below.refl _ _).alloc (Nat.le_refl _) _
  have c0 : (w.alloc (.cells #[.int .i64 kd, .string x, .string z, .int .i64 n, .int .i64 k, .bool t, .slice pu bs.length cu] 31)).cell? ⟨w.heap.size, 0, none⟩ = some (.int .i64 kd) := block_cell hbx 0
  have Hbx := Lib.hid hbx
  have HBb := Lib.hid hbb
  clear hbx hbb hok
  rcases hkd with rfl | rfl | rfl | rfl | rfl
  · have HR2 : Hid (r = (stepA h A (apdA A x bs) (if readyE h x ≠ 0 then readyE h x else if h.room - (totA A : Nat) < (bs.length : Nat) then 6 else 0) 0).2) := Lib.hid (hr.trans rfl)
    clear hr
    go_enter Try.func14, Try.ntmps14
    go_wp2_with fail
    generalize w.alloc (.cells #[.int .i64 0, .string x, .string z, .int .i64 n, .int .i64 k, .bool t, .slice pu bs.length cu] 31) = wb at *
    have HPb := Lib.hid (P.below HBb.out)
    have Hby : Hid (Byt (fun k => T1 k ∨ T2 k) wb (.slice pu bs.length cu) bs) := Lib.hid (HOk.out.b.kept (Kept.of_below HBb.out))
    have HL1 : Hid (∀ w9, Kept (fun k => T1 k ∨ T2 k) wb w9 → (loadVar 9 ⟨w.heap.size, 1, none⟩).run Try.prog w9 = .ok (.string x) w9) := Lib.hid (fun w9 h9 => by have e := block_cell ((h9.block w.heap.size (lt_of_block Hbx.out) (fun hk => by rcases hk with hk | hk; exact absurd (P.b1 _ hk).2 (by omega); exact absurd (P.b2 _ hk).2 (by omega))).trans Hbx.out) 1; simp [go_sem, e])
    have HL6 : Hid (∀ w9, Kept (fun k => T1 k ∨ T2 k) wb w9 → (loadVar 29 ⟨w.heap.size, 6, none⟩).run Try.prog w9 = .ok (.slice pu bs.length cu) w9) := Lib.hid (fun w9 h9 => by have e := block_cell ((h9.block w.heap.size (lt_of_block Hbx.out) (fun hk => by rcases hk with hk | hk; exact absurd (P.b1 _ hk).2 (by omega); exact absurd (P.b2 _ hk).2 (by omega))).trans Hbx.out) 6; simp [go_sem, e])
    clear P c0
    obtain ⟨heq, hrel⟩ := rl.append x bs
    have HRel := Lib.hid hrel
    obtain ⟨rr, hrr⟩ : ∃ q, q = (stepA h A (apdA A x bs) (if readyE h x ≠ 0 then readyE h x else if h.room - (totA A : Nat) < (bs.length : Nat) then 6 else 0) 0).1 := ⟨_, rfl⟩
    rw [← hrr] at heq
    have HEq := Lib.hid heq
    have Hrr := Lib.hid hrr
    clear heq hrel hrr
    have hdk : Kept (fun k => T1 k ∨ T2 k) wb wb.drew := Kept.of_below ((Below.refl _ _).drew)
    have hRL : ∃ Rs : List (Value → World → Prop), Rs = [K5.PureV (.pointer (some ⟨d, 0, none⟩)),
        K5.PureV (.pointer (some ⟨w.heap.size, 1, none⟩)),
        K5.PureV (.string x),
        K5.PureV (.pointer (some ⟨w.heap.size, 6, none⟩)),
        K5.PureV (.slice pu bs.length cu),
        K5.PureV (.int .i64 rr),
        K5.PureV (.pointer (some ⟨m, 0, none⟩)),
        K5.PureV (.pointer (some ⟨w.heap.size, 1, none⟩)),
        K5.PureV (.string x),
        K5.PureV (.pointer (some ⟨w.heap.size, 6, none⟩)),
        K5.PureV (.slice pu bs.length cu),
        K5.PureV (.string (mkB bs)),
        K5.PureV (.int .i64 rr),
        K5.PureV (.bool true),
        K5.PureV (.bool true)] := ⟨_, rfl⟩
    obtain ⟨Rs, hRs⟩ := hRL
    refine K5.wp_region_st (fun k => T1 k ∨ T2 k) trivial (K5.RL Rs) [2, 2, 2, 2, 2, 2, 2, 2, 2, 2, 2, 2, 2, 2, 2] [1, 1, 1, 1, 1, 2, 1, 1, 1, 1, 1, 1, 2, 1, 1] [] (JT base wb.heap.size T1 T2 d m h h' (stepA h A (apdA A x bs) (if readyE h x ≠ 0 then readyE h x else if h.room - (totA A : Nat) < (bs.length : Nat) then 6 else 0) 0).2.1 (stepR h' A' (apdR A' x bs) (if readyE h x ≠ 0 then readyE h x else if h.room - (totA A : Nat) < (bs.length : Nat) then 6 else 0) 0).2.1 A A' (stepA h A (apdA A x bs) (if readyE h x ≠ 0 then readyE h x else if h.room - (totA A : Nat) < (bs.length : Nat) then 6 else 0) 0).2.2 (stepR h' A' (apdR A' x bs) (if readyE h x ≠ 0 then readyE h x else if h.room - (totA A : Nat) < (bs.length : Nat) then 6 else 0) 0).2.2) (JT.st _ _ _ _ _ _ _ _ _ _ _ _ _ _) (show PairT _ _ _ _ _ _ _ _ _ _ from HPb.out.below ((Below.refl _ _).drew)) (by kernel_rfl) (by kernel_rfl) (by kernel_rfl) (K5.RL.st1 (by rw [hRs]; exact K5.st1_cons (K5.PureV.st1 _) (K5.st1_cons (K5.PureV.st1 _) (K5.st1_cons (K5.PureV.st1 _) (K5.st1_cons (K5.PureV.st1 _) (K5.st1_cons (K5.PureV.st1 _) (K5.st1_cons (K5.PureV.st1 _) (K5.st1_cons (K5.PureV.st1 _) (K5.st1_cons (K5.PureV.st1 _) (K5.st1_cons (K5.PureV.st1 _) (K5.st1_cons (K5.PureV.st1 _) (K5.st1_cons (K5.PureV.st1 _) (K5.st1_cons (K5.PureV.st1 _) (K5.st1_cons (K5.PureV.st1 _) (K5.st1_cons (K5.PureV.st1 _) (K5.st1_cons (K5.PureV.st1 _) (K5.st1_nil))))))))))))))))) (K5.RL.st2 (by rw [hRs]; exact K5.st2_cons (K5.PureV.st2 _ _ _) (K5.st2_cons (K5.PureV.st2 _ _ _) (K5.st2_cons (K5.PureV.st2 _ _ _) (K5.st2_cons (K5.PureV.st2 _ _ _) (K5.st2_cons (K5.PureV.st2 _ _ _) (K5.st2_cons (K5.PureV.st2 _ _ _) (K5.st2_cons (K5.PureV.st2 _ _ _) (K5.st2_cons (K5.PureV.st2 _ _ _) (K5.st2_cons (K5.PureV.st2 _ _ _) (K5.st2_cons (K5.PureV.st2 _ _ _) (K5.st2_cons (K5.PureV.st2 _ _ _) (K5.st2_cons (K5.PureV.st2 _ _ _) (K5.st2_cons (K5.PureV.st2 _ _ _) (K5.st2_cons (K5.PureV.st2 _ _ _) (K5.st2_cons (K5.PureV.st2 _ _ _) (K5.st2_nil))))))))))))))))) ?_ ?_ ?_
    · intro i o d hi hd
      have hmem := List.mem_of_getElem? hi
      simp only [List.mem_cons, List.not_mem_nil, or_false] at hmem
      rcases hmem with rfl | rfl | rfl | rfl | rfl | rfl | rfl | rfl | rfl | rfl | rfl | rfl | rfl | rfl | rfl <;> simp at hd <;> (subst hd; simp)
    · refine K5.rel_start (Φ := K5.Hop _ _ _ _ _ _ _ _) ?_
      refine K5.rel_cons (Φ := K5.Hop _ _ _ _ _ _ _ _) (k := 0) ?_ ?_
      · intro fa fw hfB hfJ hfE hfk hft
        have k0 : fa.eval (.tmp 0) = .pointer (some ⟨d, 0, none⟩) := hft 0 (K5.mem_looks (by kernel_rfl)) (K5.noneed (by kernel_rfl))
        rw [hRs]
        refine K5.hop_plain rfl ?_
        refine K5.out_move rfl ?_
        exact ⟨k0, Below.refl _ _⟩
      refine K5.rel_cons (Φ := K5.Hop _ _ _ _ _ _ _ _) (k := 1) ?_ ?_
      · intro fa fw hfB hfJ hfE hfk hft
        have k5 : fa.eval (.tmp 5) = .pointer (some ⟨w.heap.size, 0, none⟩) := hft 5 (K5.mem_looks (by kernel_rfl)) (K5.noneed (by kernel_rfl))
        rw [hRs]
        refine K5.hop_plain rfl ?_
        have kc : ∀ v, fa.eval (.const v) = v := fun _ => rfl
        generalize fa.eval = ρ at *
        exact K5.out_run (v := .pointer (some ⟨w.heap.size, 1, none⟩)) (w' := fw) (by simp [execOp, kc, k5, go_sem]) ⟨rfl, Below.refl _ _⟩
      refine K5.rel_cons (Φ := K5.Hop _ _ _ _ _ _ _ _) (k := 2) ?_ ?_
      · intro fa fw hfB hfJ hfE hfk hft
        have k16 : fa.eval (.tmp 16) = (.pointer (some ⟨w.heap.size, 1, none⟩)) := by have := hfk 1 (K5.mem_needs (by kernel_rfl)) _ rfl; rw [hRs] at this; exact this
        rw [hRs]
        refine K5.hop_plain rfl ?_
        exact out_load5 rfl k16 (HL1.out fw (hdk.trans' hfB)) ⟨rfl, Below.refl _ _⟩
      refine K5.rel_cons (Φ := K5.Hop _ _ _ _ _ _ _ _) (k := 3) ?_ ?_
      · intro fa fw hfB hfJ hfE hfk hft
        have k5 : fa.eval (.tmp 5) = .pointer (some ⟨w.heap.size, 0, none⟩) := hft 5 (K5.mem_looks (by kernel_rfl)) (K5.noneed (by kernel_rfl))
        rw [hRs]
        refine K5.hop_plain rfl ?_
        have kc : ∀ v, fa.eval (.const v) = v := fun _ => rfl
        generalize fa.eval = ρ at *
        exact K5.out_run (v := .pointer (some ⟨w.heap.size, 6, none⟩)) (w' := fw) (by simp [execOp, kc, k5, go_sem]) ⟨rfl, Below.refl _ _⟩
      refine K5.rel_cons (Φ := K5.Hop _ _ _ _ _ _ _ _) (k := 4) ?_ ?_
      · intro fa fw hfB hfJ hfE hfk hft
        have k18 : fa.eval (.tmp 18) = (.pointer (some ⟨w.heap.size, 6, none⟩)) := by have := hfk 3 (K5.mem_needs (by kernel_rfl)) _ rfl; rw [hRs] at this; exact this
        rw [hRs]
        refine K5.hop_plain rfl ?_
        exact out_load5 rfl k18 (HL6.out fw (hdk.trans' hfB)) ⟨rfl, Below.refl _ _⟩
      refine K5.rel_cons (Φ := K5.Hop _ _ _ _ _ _ _ _) (k := 5) ?_ ?_
      · intro fa fw hfB hfJ hfE hfk hft
        have k15 : fa.eval (.tmp 15) = (.pointer (some ⟨d, 0, none⟩)) := by have := hfk 0 (K5.mem_needs (by kernel_rfl)) _ rfl; rw [hRs] at this; exact this
        have k17 : fa.eval (.tmp 17) = (.string x) := by have := hfk 2 (K5.mem_needs (by kernel_rfl)) _ rfl; rw [hRs] at this; exact this
        have k19 : fa.eval (.tmp 19) = (.slice pu bs.length cu) := by have := hfk 4 (K5.mem_needs (by kernel_rfl)) _ rfl; rw [hRs] at this; exact this
        rw [hRs]
        refine K5.hop_plain rfl ?_
        have kf : fa.eval (.func 27) = .func (.func 27) #[] #[] := rfl
        have hj : PairT base T1 T2 d m h h' A A' fw := hfJ rfl
        refine K5.out_call (f := 27) (args := #[fa.eval (.tmp 15), fa.eval (.tmp 17), fa.eval (.tmp 19)]) (by generalize fa.eval = ρ at *; simp [execOp, kf, go_sem]) ?_
        rw [k15, k17, k19]
        refine (cAppend hj.c (fun k hk => (hj.b1 k hk).2) ok1 ok2 ok3 x _ bs ((Hby.out.kept (hdk.trans' hfB)).sub (fun k hk => .inl hk)) (by omega)).mono fun e w9 q => ?_
        exact ⟨_, q.e, by rw [Hrr.out]; rfl, q.k.mono (fun k hk => .inl hk), _, hj.one q.d q.k, fun k hk => hk.imp id (fun x => Nat.le_trans (hdk.trans' hfB).size x.1)⟩
      refine K5.rel_cons (Φ := K5.Hop _ _ _ _ _ _ _ _) (k := 6) ?_ ?_
      · intro fa fw hfB hfJ hfE hfk hft
        have k1 : fa.eval (.tmp 1) = .pointer (some ⟨m, 0, none⟩) := hft 1 (K5.mem_looks (by kernel_rfl)) (K5.noneed (by kernel_rfl))
        rw [hRs]
        refine K5.hop_plain rfl ?_
        refine K5.out_move rfl ?_
        exact ⟨k1, Below.refl _ _⟩
      refine K5.rel_cons (Φ := K5.Hop _ _ _ _ _ _ _ _) (k := 7) ?_ ?_
      · intro fa fw hfB hfJ hfE hfk hft
        have k5 : fa.eval (.tmp 5) = .pointer (some ⟨w.heap.size, 0, none⟩) := hft 5 (K5.mem_looks (by kernel_rfl)) (K5.noneed (by kernel_rfl))
        rw [hRs]
        refine K5.hop_plain rfl ?_
        have kc : ∀ v, fa.eval (.const v) = v := fun _ => rfl
        generalize fa.eval = ρ at *
        exact K5.out_run (v := .pointer (some ⟨w.heap.size, 1, none⟩)) (w' := fw) (by simp [execOp, kc, k5, go_sem]) ⟨rfl, Below.refl _ _⟩
      refine K5.rel_cons (Φ := K5.Hop _ _ _ _ _ _ _ _) (k := 8) ?_ ?_
      · intro fa fw hfB hfJ hfE hfk hft
        have k22 : fa.eval (.tmp 22) = (.pointer (some ⟨w.heap.size, 1, none⟩)) := by have := hfk 7 (K5.mem_needs (by kernel_rfl)) _ rfl; rw [hRs] at this; exact this
        rw [hRs]
        refine K5.hop_plain rfl ?_
        exact out_load5 rfl k22 (HL1.out fw (hdk.trans' hfB)) ⟨rfl, Below.refl _ _⟩
      refine K5.rel_cons (Φ := K5.Hop _ _ _ _ _ _ _ _) (k := 9) ?_ ?_
      · intro fa fw hfB hfJ hfE hfk hft
        have k5 : fa.eval (.tmp 5) = .pointer (some ⟨w.heap.size, 0, none⟩) := hft 5 (K5.mem_looks (by kernel_rfl)) (K5.noneed (by kernel_rfl))
        rw [hRs]
        refine K5.hop_plain rfl ?_
        have kc : ∀ v, fa.eval (.const v) = v := fun _ => rfl
        generalize fa.eval = ρ at *
        exact K5.out_run (v := .pointer (some ⟨w.heap.size, 6, none⟩)) (w' := fw) (by simp [execOp, kc, k5, go_sem]) ⟨rfl, Below.refl _ _⟩
      refine K5.rel_cons (Φ := K5.Hop _ _ _ _ _ _ _ _) (k := 10) ?_ ?_
      · intro fa fw hfB hfJ hfE hfk hft
        have k24 : fa.eval (.tmp 24) = (.pointer (some ⟨w.heap.size, 6, none⟩)) := by have := hfk 9 (K5.mem_needs (by kernel_rfl)) _ rfl; rw [hRs] at this; exact this
        rw [hRs]
        refine K5.hop_plain rfl ?_
        exact out_load5 rfl k24 (HL6.out fw (hdk.trans' hfB)) ⟨rfl, Below.refl _ _⟩
      refine K5.rel_cons (Φ := K5.Hop _ _ _ _ _ _ _ _) (k := 11) ?_ ?_
      · intro fa fw hfB hfJ hfE hfk hft
        have k25 : fa.eval (.tmp 25) = (.slice pu bs.length cu) := by have := hfk 10 (K5.mem_needs (by kernel_rfl)) _ rfl; rw [hRs] at this; exact this
        rw [hRs]
        refine K5.hop_plain rfl ?_
        have hcv := lat_conv (Hby.out.a fw (hdk.trans' hfB))
        generalize fa.eval = ρ at *
        exact K5.out_run (v := .string (mkB bs)) (w' := fw) (by unfold execOp; simp only [show ρ (.tmp 25) = _ from k25, Sem.run_bind, hcv, Result.andThen_ok, Sem.run_pure]) ⟨rfl, Below.refl _ _⟩
      refine K5.rel_cons (Φ := K5.Hop _ _ _ _ _ _ _ _) (k := 12) ?_ ?_
      · intro fa fw hfB hfJ hfE hfk hft
        have k21 : fa.eval (.tmp 21) = (.pointer (some ⟨m, 0, none⟩)) := by have := hfk 6 (K5.mem_needs (by kernel_rfl)) _ rfl; rw [hRs] at this; exact this
        have k23 : fa.eval (.tmp 23) = (.string x) := by have := hfk 8 (K5.mem_needs (by kernel_rfl)) _ rfl; rw [hRs] at this; exact this
        have k26 : fa.eval (.tmp 26) = (.string (mkB bs)) := by have := hfk 11 (K5.mem_needs (by kernel_rfl)) _ rfl; rw [hRs] at this; exact this
        rw [hRs]
        refine K5.hop_plain rfl ?_
        have kf : fa.eval (.func 32) = .func (.func 32) #[] #[] := rfl
        obtain ⟨T1', hj, hq1⟩ : ∃ T1', PairT base T1' T2 d m _ h' _ A' fw ∧ ∀ k, T1' k → T1 k ∨ wb.heap.size ≤ k := hfJ rfl
        refine K5.out_call (f := 32) (args := #[fa.eval (.tmp 21), fa.eval (.tmp 23), fa.eval (.tmp 26)]) (by generalize fa.eval = ρ at *; simp [execOp, kf, go_sem]) ?_
        rw [k21, k23, k26]
        refine ((by have e : (if readyE h' x ≠ 0 then readyE h' x else if h'.room - (totA A' : Nat) < (bs.length : Nat) then 6 else 0) = (if readyE h x ≠ 0 then readyE h x else if h.room - (totA A : Nat) < (bs.length : Nat) then 6 else 0) := (by rw [rl.ready, ← rl.room.1, ← rl.agr.tot]); rw [← e]; exact rAppend hj.r ok4 x bs (by omega) : Calls Try.prog 32 _ fw (RR T2 m fw (stepR h' A' (apdR A' x bs) (if readyE h x ≠ 0 then readyE h x else if h.room - (totA A : Nat) < (bs.length : Nat) then 6 else 0) 0)))).mono fun e w9 q => ?_
        exact ⟨_, q.e, by rw [← HEq.out]; rfl, q.k.mono (fun k hk => .inr hk), _, _, hj.two q.d q.k, hq1, fun k hk => hk.imp id (fun x => Nat.le_trans (hdk.trans' hfB).size x.1)⟩
      refine K5.rel_cons (Φ := K5.Hop _ _ _ _ _ _ _ _) (k := 13) ?_ ?_
      · intro fa fw hfB hfJ hfE hfk hft
        have k20 : fa.eval (.tmp 20) = (.int .i64 rr) := by have := hfk 5 (K5.mem_needs (by kernel_rfl)) _ rfl; rw [hRs] at this; exact this
        have k27 : fa.eval (.tmp 27) = (.int .i64 rr) := by have := hfk 12 (K5.mem_needs (by kernel_rfl)) _ rfl; rw [hRs] at this; exact this
        rw [hRs]
        refine K5.hop_plain rfl ?_
        have kc : ∀ v, fa.eval (.const v) = v := fun _ => rfl
        generalize fa.eval = ρ at *
        exact K5.out_run (v := .bool true) (w' := fw) (by simp [execOp, kc, k20, k27, go_sem]) ⟨rfl, Below.refl _ _⟩
      refine K5.rel_cons (Φ := K5.Hop _ _ _ _ _ _ _ _) (k := 14) ?_ ?_
      · intro fa fw hfB hfJ hfE hfk hft
        have k28 : fa.eval (.tmp 28) = (.bool true) := by have := hfk 13 (K5.mem_needs (by kernel_rfl)) _ rfl; rw [hRs] at this; exact this
        rw [hRs]
        refine K5.hop_plain rfl ?_
        refine K5.out_assign rfl ?_
        exact ⟨k28, Below.refl _ _⟩
      exact K5.rel_nil
    · intro fa fw hfB hfJ hfy hff hfs hfd
      rw [hRs] at hfy
      have k6 : fa.eval (.tmp 6) = (.bool true) := hfy 14 _ rfl (K5.unkilled (by decide))
      obtain ⟨T1', T2', hfin, hq1, hq2⟩ : ∃ T1' T2', PairT base T1' T2' d m _ _ _ _ fw ∧ (∀ k, T1' k → T1 k ∨ wb.heap.size ≤ k) ∧ ∀ k, T2' k → T2 k ∨ wb.heap.size ≤ k := hfJ
      have HQ1 := Lib.hid hq1
      have HQ2 := Lib.hid hq2
      clear hq1 hq2
      have HP := Lib.hid hfin
      have HK := Lib.hid ((Kept.of_below HBb.out).trans' (hdk.trans' hfB))
      clear hfin hfB
      have e := K5.rel_frame [15, 16, 17, 18, 19, 20, 21, 22, 23, 24, 25, 26, 27, 28, 6] (by kernel_rfl) hff hfs hfd
      simp only [List.foldl] at e
      rw [show fa.tmps.getD 6 undef = .bool true from k6] at e
      clear hfy hff hfs hfd k6
      generalize fa.tmps.getD 15 undef = x15 at e
      generalize fa.tmps.getD 16 undef = x16 at e
      generalize fa.tmps.getD 17 undef = x17 at e
      generalize fa.tmps.getD 18 undef = x18 at e
      generalize fa.tmps.getD 19 undef = x19 at e
      generalize fa.tmps.getD 20 undef = x20 at e
      generalize fa.tmps.getD 21 undef = x21 at e
      generalize fa.tmps.getD 22 undef = x22 at e
      generalize fa.tmps.getD 23 undef = x23 at e
      generalize fa.tmps.getD 24 undef = x24 at e
      generalize fa.tmps.getD 25 undef = x25 at e
      generalize fa.tmps.getD 26 undef = x26 at e
      generalize fa.tmps.getD 27 undef = x27 at e
      generalize fa.tmps.getD 28 undef = x28 at e
      simp [List.setIfInBounds_toArray, List.set_cons_succ, List.set_cons_zero] at e
      subst e
      go_wp2_with fail
      go_ret
      exact ⟨rfl, _, _, _, _, by rw [HR2.out]; exact HP.out, by rw [HR2.out]; exact HRel.out, HK.out, (fun k hk => (HQ1.out k hk).imp id (Nat.le_trans HBb.out.size)), fun k hk => (HQ2.out k hk).imp id (Nat.le_trans HBb.out.size)⟩
  · have HR2 : Hid (r = (stepA h A (synA A x) (findA h A x) 2).2) := Lib.hid (hr.trans rfl)
    clear hr
    go_enter Try.func14, Try.ntmps14
    go_wp2_with fail
    generalize w.alloc (.cells #[.int .i64 2, .string x, .string z, .int .i64 n, .int .i64 k, .bool t, .slice pu bs.length cu] 31) = wb at *
    have HPb := Lib.hid (P.below HBb.out)
    have Hby : Hid (Byt (fun k => T1 k ∨ T2 k) wb (.slice pu bs.length cu) bs) := Lib.hid (HOk.out.b.kept (Kept.of_below HBb.out))
    have HL1 : Hid (∀ w9, Kept (fun k => T1 k ∨ T2 k) wb w9 → (loadVar 9 ⟨w.heap.size, 1, none⟩).run Try.prog w9 = .ok (.string x) w9) := Lib.hid (fun w9 h9 => by have e := block_cell ((h9.block w.heap.size (lt_of_block Hbx.out) (fun hk => by rcases hk with hk | hk; exact absurd (P.b1 _ hk).2 (by omega); exact absurd (P.b2 _ hk).2 (by omega))).trans Hbx.out) 1; simp [go_sem, e])
    clear P c0
    obtain ⟨heq, hrel⟩ := rl.sync x
    have HRel := Lib.hid hrel
    obtain ⟨rr, hrr⟩ : ∃ q, q = (stepA h A (synA A x) (findA h A x) 2).1 := ⟨_, rfl⟩
    rw [← hrr] at heq
    have HEq := Lib.hid heq
    have Hrr := Lib.hid hrr
    clear heq hrel hrr
    have hdk : Kept (fun k => T1 k ∨ T2 k) wb wb.drew := Kept.of_below ((Below.refl _ _).drew)
    have hRL : ∃ Rs : List (Value → World → Prop), Rs = [K5.PureV (.pointer (some ⟨d, 0, none⟩)),
        K5.PureV (.pointer (some ⟨w.heap.size, 1, none⟩)),
        K5.PureV (.string x),
        K5.PureV (.int .i64 rr),
        K5.PureV (.pointer (some ⟨m, 0, none⟩)),
        K5.PureV (.pointer (some ⟨w.heap.size, 1, none⟩)),
        K5.PureV (.string x),
        K5.PureV (.int .i64 rr),
        K5.PureV (.bool true),
        K5.PureV (.bool true)] := ⟨_, rfl⟩
    obtain ⟨Rs, hRs⟩ := hRL
    refine K5.wp_region_st (fun k => T1 k ∨ T2 k) trivial (K5.RL Rs) [2, 2, 2, 2, 2, 2, 2, 2, 2, 2] [1, 1, 1, 2, 1, 1, 1, 2, 1, 1] [] (JT base wb.heap.size T1 T2 d m h h' (stepA h A (synA A x) (findA h A x) 2).2.1 (stepR h' A' (synR A' x) (findA h A x) 2).2.1 A A' (stepA h A (synA A x) (findA h A x) 2).2.2 (stepR h' A' (synR A' x) (findA h A x) 2).2.2) (JT.st _ _ _ _ _ _ _ _ _ _ _ _ _ _) (show PairT _ _ _ _ _ _ _ _ _ _ from HPb.out.below ((Below.refl _ _).drew)) (by kernel_rfl) (by kernel_rfl) (by kernel_rfl) (K5.RL.st1 (by rw [hRs]; exact K5.st1_cons (K5.PureV.st1 _) (K5.st1_cons (K5.PureV.st1 _) (K5.st1_cons (K5.PureV.st1 _) (K5.st1_cons (K5.PureV.st1 _) (K5.st1_cons (K5.PureV.st1 _) (K5.st1_cons (K5.PureV.st1 _) (K5.st1_cons (K5.PureV.st1 _) (K5.st1_cons (K5.PureV.st1 _) (K5.st1_cons (K5.PureV.st1 _) (K5.st1_cons (K5.PureV.st1 _) (K5.st1_nil)))))))))))) (K5.RL.st2 (by rw [hRs]; exact K5.st2_cons (K5.PureV.st2 _ _ _) (K5.st2_cons (K5.PureV.st2 _ _ _) (K5.st2_cons (K5.PureV.st2 _ _ _) (K5.st2_cons (K5.PureV.st2 _ _ _) (K5.st2_cons (K5.PureV.st2 _ _ _) (K5.st2_cons (K5.PureV.st2 _ _ _) (K5.st2_cons (K5.PureV.st2 _ _ _) (K5.st2_cons (K5.PureV.st2 _ _ _) (K5.st2_cons (K5.PureV.st2 _ _ _) (K5.st2_cons (K5.PureV.st2 _ _ _) (K5.st2_nil)))))))))))) ?_ ?_ ?_
    · intro i o d hi hd
      have hmem := List.mem_of_getElem? hi
      simp only [List.mem_cons, List.not_mem_nil, or_false] at hmem
      rcases hmem with rfl | rfl | rfl | rfl | rfl | rfl | rfl | rfl | rfl | rfl <;> simp at hd <;> (subst hd; simp)
    · refine K5.rel_start (Φ := K5.Hop _ _ _ _ _ _ _ _) ?_
      refine K5.rel_cons (Φ := K5.Hop _ _ _ _ _ _ _ _) (k := 0) ?_ ?_
      · intro fa fw hfB hfJ hfE hfk hft
        have k0 : fa.eval (.tmp 0) = .pointer (some ⟨d, 0, none⟩) := hft 0 (K5.mem_looks (by kernel_rfl)) (K5.noneed (by kernel_rfl))
        rw [hRs]
        refine K5.hop_plain rfl ?_
        refine K5.out_move rfl ?_
        exact ⟨k0, Below.refl _ _⟩
      refine K5.rel_cons (Φ := K5.Hop _ _ _ _ _ _ _ _) (k := 1) ?_ ?_
      · intro fa fw hfB hfJ hfE hfk hft
        have k5 : fa.eval (.tmp 5) = .pointer (some ⟨w.heap.size, 0, none⟩) := hft 5 (K5.mem_looks (by kernel_rfl)) (K5.noneed (by kernel_rfl))
        rw [hRs]
        refine K5.hop_plain rfl ?_
        have kc : ∀ v, fa.eval (.const v) = v := fun _ => rfl
        generalize fa.eval = ρ at *
        exact K5.out_run (v := .pointer (some ⟨w.heap.size, 1, none⟩)) (w' := fw) (by simp [execOp, kc, k5, go_sem]) ⟨rfl, Below.refl _ _⟩
      refine K5.rel_cons (Φ := K5.Hop _ _ _ _ _ _ _ _) (k := 2) ?_ ?_
      · intro fa fw hfB hfJ hfE hfk hft
        have k57 : fa.eval (.tmp 57) = (.pointer (some ⟨w.heap.size, 1, none⟩)) := by have := hfk 1 (K5.mem_needs (by kernel_rfl)) _ rfl; rw [hRs] at this; exact this
        rw [hRs]
        refine K5.hop_plain rfl ?_
        exact out_load5 rfl k57 (HL1.out fw (hdk.trans' hfB)) ⟨rfl, Below.refl _ _⟩
      refine K5.rel_cons (Φ := K5.Hop _ _ _ _ _ _ _ _) (k := 3) ?_ ?_
      · intro fa fw hfB hfJ hfE hfk hft
        have k56 : fa.eval (.tmp 56) = (.pointer (some ⟨d, 0, none⟩)) := by have := hfk 0 (K5.mem_needs (by kernel_rfl)) _ rfl; rw [hRs] at this; exact this
        have k58 : fa.eval (.tmp 58) = (.string x) := by have := hfk 2 (K5.mem_needs (by kernel_rfl)) _ rfl; rw [hRs] at this; exact this
        rw [hRs]
        refine K5.hop_plain rfl ?_
        have kf : fa.eval (.func 28) = .func (.func 28) #[] #[] := rfl
        have hj : PairT base T1 T2 d m h h' A A' fw := hfJ rfl
        refine K5.out_call (f := 28) (args := #[fa.eval (.tmp 56), fa.eval (.tmp 58)]) (by generalize fa.eval = ρ at *; simp [execOp, kf, go_sem]) ?_
        rw [k56, k58]
        refine (cSync hj.c (fun k hk => (hj.b1 k hk).2) ok1 ok2 x).mono fun e w9 q => ?_
        exact ⟨_, q.e, by rw [Hrr.out]; rfl, q.k.mono (fun k hk => .inl hk), _, hj.one q.d q.k, fun k hk => hk.imp id (fun x => Nat.le_trans (hdk.trans' hfB).size x.1)⟩
      refine K5.rel_cons (Φ := K5.Hop _ _ _ _ _ _ _ _) (k := 4) ?_ ?_
      · intro fa fw hfB hfJ hfE hfk hft
        have k1 : fa.eval (.tmp 1) = .pointer (some ⟨m, 0, none⟩) := hft 1 (K5.mem_looks (by kernel_rfl)) (K5.noneed (by kernel_rfl))
        rw [hRs]
        refine K5.hop_plain rfl ?_
        refine K5.out_move rfl ?_
        exact ⟨k1, Below.refl _ _⟩
      refine K5.rel_cons (Φ := K5.Hop _ _ _ _ _ _ _ _) (k := 5) ?_ ?_
      · intro fa fw hfB hfJ hfE hfk hft
        have k5 : fa.eval (.tmp 5) = .pointer (some ⟨w.heap.size, 0, none⟩) := hft 5 (K5.mem_looks (by kernel_rfl)) (K5.noneed (by kernel_rfl))
        rw [hRs]
        refine K5.hop_plain rfl ?_
        have kc : ∀ v, fa.eval (.const v) = v := fun _ => rfl
        generalize fa.eval = ρ at *
        exact K5.out_run (v := .pointer (some ⟨w.heap.size, 1, none⟩)) (w' := fw) (by simp [execOp, kc, k5, go_sem]) ⟨rfl, Below.refl _ _⟩
      refine K5.rel_cons (Φ := K5.Hop _ _ _ _ _ _ _ _) (k := 6) ?_ ?_
      · intro fa fw hfB hfJ hfE hfk hft
        have k61 : fa.eval (.tmp 61) = (.pointer (some ⟨w.heap.size, 1, none⟩)) := by have := hfk 5 (K5.mem_needs (by kernel_rfl)) _ rfl; rw [hRs] at this; exact this
        rw [hRs]
        refine K5.hop_plain rfl ?_
        exact out_load5 rfl k61 (HL1.out fw (hdk.trans' hfB)) ⟨rfl, Below.refl _ _⟩
      refine K5.rel_cons (Φ := K5.Hop _ _ _ _ _ _ _ _) (k := 7) ?_ ?_
      · intro fa fw hfB hfJ hfE hfk hft
        have k60 : fa.eval (.tmp 60) = (.pointer (some ⟨m, 0, none⟩)) := by have := hfk 4 (K5.mem_needs (by kernel_rfl)) _ rfl; rw [hRs] at this; exact this
        have k62 : fa.eval (.tmp 62) = (.string x) := by have := hfk 6 (K5.mem_needs (by kernel_rfl)) _ rfl; rw [hRs] at this; exact this
        rw [hRs]
        refine K5.hop_plain rfl ?_
        have kf : fa.eval (.func 33) = .func (.func 33) #[] #[] := rfl
        obtain ⟨T1', hj, hq1⟩ : ∃ T1', PairT base T1' T2 d m _ h' _ A' fw ∧ ∀ k, T1' k → T1 k ∨ wb.heap.size ≤ k := hfJ rfl
        refine K5.out_call (f := 33) (args := #[fa.eval (.tmp 60), fa.eval (.tmp 62)]) (by generalize fa.eval = ρ at *; simp [execOp, kf, go_sem]) ?_
        rw [k60, k62]
        refine ((by rw [← rl.find]; exact rSync hj.r ok4 x : Calls Try.prog 33 _ fw (RR T2 m fw (stepR h' A' (synR A' x) (findA h A x) 2)))).mono fun e w9 q => ?_
        exact ⟨_, q.e, by rw [← HEq.out]; rfl, q.k.mono (fun k hk => .inr hk), _, _, hj.two q.d q.k, hq1, fun k hk => hk.imp id (fun x => Nat.le_trans (hdk.trans' hfB).size x.1)⟩
      refine K5.rel_cons (Φ := K5.Hop _ _ _ _ _ _ _ _) (k := 8) ?_ ?_
      · intro fa fw hfB hfJ hfE hfk hft
        have k59 : fa.eval (.tmp 59) = (.int .i64 rr) := by have := hfk 3 (K5.mem_needs (by kernel_rfl)) _ rfl; rw [hRs] at this; exact this
        have k63 : fa.eval (.tmp 63) = (.int .i64 rr) := by have := hfk 7 (K5.mem_needs (by kernel_rfl)) _ rfl; rw [hRs] at this; exact this
        rw [hRs]
        refine K5.hop_plain rfl ?_
        have kc : ∀ v, fa.eval (.const v) = v := fun _ => rfl
        generalize fa.eval = ρ at *
        exact K5.out_run (v := .bool true) (w' := fw) (by simp [execOp, kc, k59, k63, go_sem]) ⟨rfl, Below.refl _ _⟩
      refine K5.rel_cons (Φ := K5.Hop _ _ _ _ _ _ _ _) (k := 9) ?_ ?_
      · intro fa fw hfB hfJ hfE hfk hft
        have k64 : fa.eval (.tmp 64) = (.bool true) := by have := hfk 8 (K5.mem_needs (by kernel_rfl)) _ rfl; rw [hRs] at this; exact this
        rw [hRs]
        refine K5.hop_plain rfl ?_
        refine K5.out_assign rfl ?_
        exact ⟨k64, Below.refl _ _⟩
      exact K5.rel_nil
    · intro fa fw hfB hfJ hfy hff hfs hfd
      rw [hRs] at hfy
      have k6 : fa.eval (.tmp 6) = (.bool true) := hfy 9 _ rfl (K5.unkilled (by decide))
      obtain ⟨T1', T2', hfin, hq1, hq2⟩ : ∃ T1' T2', PairT base T1' T2' d m _ _ _ _ fw ∧ (∀ k, T1' k → T1 k ∨ wb.heap.size ≤ k) ∧ ∀ k, T2' k → T2 k ∨ wb.heap.size ≤ k := hfJ
      have HQ1 := Lib.hid hq1
      have HQ2 := Lib.hid hq2
      clear hq1 hq2
      have HP := Lib.hid hfin
      have HK := Lib.hid ((Kept.of_below HBb.out).trans' (hdk.trans' hfB))
      clear hfin hfB
      have e := K5.rel_frame [56, 57, 58, 59, 60, 61, 62, 63, 64, 6] (by kernel_rfl) hff hfs hfd
      simp only [List.foldl] at e
      rw [show fa.tmps.getD 6 undef = .bool true from k6] at e
      clear hfy hff hfs hfd k6
      generalize fa.tmps.getD 56 undef = x56 at e
      generalize fa.tmps.getD 57 undef = x57 at e
      generalize fa.tmps.getD 58 undef = x58 at e
      generalize fa.tmps.getD 59 undef = x59 at e
      generalize fa.tmps.getD 60 undef = x60 at e
      generalize fa.tmps.getD 61 undef = x61 at e
      generalize fa.tmps.getD 62 undef = x62 at e
      generalize fa.tmps.getD 63 undef = x63 at e
      generalize fa.tmps.getD 64 undef = x64 at e
      simp [List.setIfInBounds_toArray, List.set_cons_succ, List.set_cons_zero] at e
      subst e
      go_wp2_with fail
      go_ret
      exact ⟨rfl, _, _, _, _, by rw [HR2.out]; exact HP.out, by rw [HR2.out]; exact HRel.out, HK.out, (fun k hk => (HQ1.out k hk).imp id (Nat.le_trans HBb.out.size)), fun k hk => (HQ2.out k hk).imp id (Nat.le_trans HBb.out.size)⟩
  · have HR2 : Hid (r = (stepA h A (cutA A x n.toNat) (if findA h A x ≠ 0 then findA h A x else if n < 0 then 1 else 0) 1).2) := Lib.hid (hr.trans rfl)
    clear hr
    go_enter Try.func14, Try.ntmps14
    go_wp2_with fail
    generalize w.alloc (.cells #[.int .i64 3, .string x, .string z, .int .i64 n, .int .i64 k, .bool t, .slice pu bs.length cu] 31) = wb at *
    have HPb := Lib.hid (P.below HBb.out)
    have Hby : Hid (Byt (fun k => T1 k ∨ T2 k) wb (.slice pu bs.length cu) bs) := Lib.hid (HOk.out.b.kept (Kept.of_below HBb.out))
    have HL1 : Hid (∀ w9, Kept (fun k => T1 k ∨ T2 k) wb w9 → (loadVar 9 ⟨w.heap.size, 1, none⟩).run Try.prog w9 = .ok (.string x) w9) := Lib.hid (fun w9 h9 => by have e := block_cell ((h9.block w.heap.size (lt_of_block Hbx.out) (fun hk => by rcases hk with hk | hk; exact absurd (P.b1 _ hk).2 (by omega); exact absurd (P.b2 _ hk).2 (by omega))).trans Hbx.out) 1; simp [go_sem, e])
    have HL3 : Hid (∀ w9, Kept (fun k => T1 k ∨ T2 k) wb w9 → (loadVar 3 ⟨w.heap.size, 3, none⟩).run Try.prog w9 = .ok (.int .i64 n) w9) := Lib.hid (fun w9 h9 => by have e := block_cell ((h9.block w.heap.size (lt_of_block Hbx.out) (fun hk => by rcases hk with hk | hk; exact absurd (P.b1 _ hk).2 (by omega); exact absurd (P.b2 _ hk).2 (by omega))).trans Hbx.out) 3; simp [go_sem, e])
    clear P c0
    obtain ⟨heq, hrel⟩ := rl.cut x n
    have HRel := Lib.hid hrel
    obtain ⟨rr, hrr⟩ : ∃ q, q = (stepA h A (cutA A x n.toNat) (if findA h A x ≠ 0 then findA h A x else if n < 0 then 1 else 0) 1).1 := ⟨_, rfl⟩
    rw [← hrr] at heq
    have HEq := Lib.hid heq
    have Hrr := Lib.hid hrr
    clear heq hrel hrr
    have hdk : Kept (fun k => T1 k ∨ T2 k) wb wb.drew := Kept.of_below ((Below.refl _ _).drew)
    have hRL : ∃ Rs : List (Value → World → Prop), Rs = [K5.PureV (.pointer (some ⟨d, 0, none⟩)),
        K5.PureV (.pointer (some ⟨w.heap.size, 1, none⟩)),
        K5.PureV (.string x),
        K5.PureV (.pointer (some ⟨w.heap.size, 3, none⟩)),
        K5.PureV (.int .i64 n),
        K5.PureV (.int .i64 rr),
        K5.PureV (.pointer (some ⟨m, 0, none⟩)),
        K5.PureV (.pointer (some ⟨w.heap.size, 1, none⟩)),
        K5.PureV (.string x),
        K5.PureV (.pointer (some ⟨w.heap.size, 3, none⟩)),
        K5.PureV (.int .i64 n),
        K5.PureV (.int .i64 rr),
        K5.PureV (.bool true),
        K5.PureV (.bool true)] := ⟨_, rfl⟩
    obtain ⟨Rs, hRs⟩ := hRL
    refine K5.wp_region_st (fun k => T1 k ∨ T2 k) trivial (K5.RL Rs) [2, 2, 2, 2, 2, 2, 2, 2, 2, 2, 2, 2, 2, 2] [1, 1, 1, 1, 1, 2, 1, 1, 1, 1, 1, 2, 1, 1] [] (JT base wb.heap.size T1 T2 d m h h' (stepA h A (cutA A x n.toNat) (if findA h A x ≠ 0 then findA h A x else if n < 0 then 1 else 0) 1).2.1 (stepR h' A' (cutR A' x n.toNat) (if findA h A x ≠ 0 then findA h A x else if n < 0 then 1 else 0) 1).2.1 A A' (stepA h A (cutA A x n.toNat) (if findA h A x ≠ 0 then findA h A x else if n < 0 then 1 else 0) 1).2.2 (stepR h' A' (cutR A' x n.toNat) (if findA h A x ≠ 0 then findA h A x else if n < 0 then 1 else 0) 1).2.2) (JT.st _ _ _ _ _ _ _ _ _ _ _ _ _ _) (show PairT _ _ _ _ _ _ _ _ _ _ from HPb.out.below ((Below.refl _ _).drew)) (by kernel_rfl) (by kernel_rfl) (by kernel_rfl) (K5.RL.st1 (by rw [hRs]; exact K5.st1_cons (K5.PureV.st1 _) (K5.st1_cons (K5.PureV.st1 _) (K5.st1_cons (K5.PureV.st1 _) (K5.st1_cons (K5.PureV.st1 _) (K5.st1_cons (K5.PureV.st1 _) (K5.st1_cons (K5.PureV.st1 _) (K5.st1_cons (K5.PureV.st1 _) (K5.st1_cons (K5.PureV.st1 _) (K5.st1_cons (K5.PureV.st1 _) (K5.st1_cons (K5.PureV.st1 _) (K5.st1_cons (K5.PureV.st1 _) (K5.st1_cons (K5.PureV.st1 _) (K5.st1_cons (K5.PureV.st1 _) (K5.st1_cons (K5.PureV.st1 _) (K5.st1_nil)))))))))))))))) (K5.RL.st2 (by rw [hRs]; exact K5.st2_cons (K5.PureV.st2 _ _ _) (K5.st2_cons (K5.PureV.st2 _ _ _) (K5.st2_cons (K5.PureV.st2 _ _ _) (K5.st2_cons (K5.PureV.st2 _ _ _) (K5.st2_cons (K5.PureV.st2 _ _ _) (K5.st2_cons (K5.PureV.st2 _ _ _) (K5.st2_cons (K5.PureV.st2 _ _ _) (K5.st2_cons (K5.PureV.st2 _ _ _) (K5.st2_cons (K5.PureV.st2 _ _ _) (K5.st2_cons (K5.PureV.st2 _ _ _) (K5.st2_cons (K5.PureV.st2 _ _ _) (K5.st2_cons (K5.PureV.st2 _ _ _) (K5.st2_cons (K5.PureV.st2 _ _ _) (K5.st2_cons (K5.PureV.st2 _ _ _) (K5.st2_nil)))))))))))))))) ?_ ?_ ?_
    · intro i o d hi hd
      have hmem := List.mem_of_getElem? hi
      simp only [List.mem_cons, List.not_mem_nil, or_false] at hmem
      rcases hmem with rfl | rfl | rfl | rfl | rfl | rfl | rfl | rfl | rfl | rfl | rfl | rfl | rfl | rfl <;> simp at hd <;> (subst hd; simp)
    · refine K5.rel_start (Φ := K5.Hop _ _ _ _ _ _ _ _) ?_
      refine K5.rel_cons (Φ := K5.Hop _ _ _ _ _ _ _ _) (k := 0) ?_ ?_
      · intro fa fw hfB hfJ hfE hfk hft
        have k0 : fa.eval (.tmp 0) = .pointer (some ⟨d, 0, none⟩) := hft 0 (K5.mem_looks (by kernel_rfl)) (K5.noneed (by kernel_rfl))
        rw [hRs]
        refine K5.hop_plain rfl ?_
        refine K5.out_move rfl ?_
        exact ⟨k0, Below.refl _ _⟩
      refine K5.rel_cons (Φ := K5.Hop _ _ _ _ _ _ _ _) (k := 1) ?_ ?_
      · intro fa fw hfB hfJ hfE hfk hft
        have k5 : fa.eval (.tmp 5) = .pointer (some ⟨w.heap.size, 0, none⟩) := hft 5 (K5.mem_looks (by kernel_rfl)) (K5.noneed (by kernel_rfl))
        rw [hRs]
        refine K5.hop_plain rfl ?_
        have kc : ∀ v, fa.eval (.const v) = v := fun _ => rfl
        generalize fa.eval = ρ at *
        exact K5.out_run (v := .pointer (some ⟨w.heap.size, 1, none⟩)) (w' := fw) (by simp [execOp, kc, k5, go_sem]) ⟨rfl, Below.refl _ _⟩
      refine K5.rel_cons (Φ := K5.Hop _ _ _ _ _ _ _ _) (k := 2) ?_ ?_
      · intro fa fw hfB hfJ hfE hfk hft
        have k68 : fa.eval (.tmp 68) = (.pointer (some ⟨w.heap.size, 1, none⟩)) := by have := hfk 1 (K5.mem_needs (by kernel_rfl)) _ rfl; rw [hRs] at this; exact this
        rw [hRs]
        refine K5.hop_plain rfl ?_
        exact out_load5 rfl k68 (HL1.out fw (hdk.trans' hfB)) ⟨rfl, Below.refl _ _⟩
      refine K5.rel_cons (Φ := K5.Hop _ _ _ _ _ _ _ _) (k := 3) ?_ ?_
      · intro fa fw hfB hfJ hfE hfk hft
        have k5 : fa.eval (.tmp 5) = .pointer (some ⟨w.heap.size, 0, none⟩) := hft 5 (K5.mem_looks (by kernel_rfl)) (K5.noneed (by kernel_rfl))
        rw [hRs]
        refine K5.hop_plain rfl ?_
        have kc : ∀ v, fa.eval (.const v) = v := fun _ => rfl
        generalize fa.eval = ρ at *
        exact K5.out_run (v := .pointer (some ⟨w.heap.size, 3, none⟩)) (w' := fw) (by simp [execOp, kc, k5, go_sem]) ⟨rfl, Below.refl _ _⟩
      refine K5.rel_cons (Φ := K5.Hop _ _ _ _ _ _ _ _) (k := 4) ?_ ?_
      · intro fa fw hfB hfJ hfE hfk hft
        have k70 : fa.eval (.tmp 70) = (.pointer (some ⟨w.heap.size, 3, none⟩)) := by have := hfk 3 (K5.mem_needs (by kernel_rfl)) _ rfl; rw [hRs] at this; exact this
        rw [hRs]
        refine K5.hop_plain rfl ?_
        exact out_load5 rfl k70 (HL3.out fw (hdk.trans' hfB)) ⟨rfl, Below.refl _ _⟩
      refine K5.rel_cons (Φ := K5.Hop _ _ _ _ _ _ _ _) (k := 5) ?_ ?_
      · intro fa fw hfB hfJ hfE hfk hft
        have k67 : fa.eval (.tmp 67) = (.pointer (some ⟨d, 0, none⟩)) := by have := hfk 0 (K5.mem_needs (by kernel_rfl)) _ rfl; rw [hRs] at this; exact this
        have k69 : fa.eval (.tmp 69) = (.string x) := by have := hfk 2 (K5.mem_needs (by kernel_rfl)) _ rfl; rw [hRs] at this; exact this
        have k71 : fa.eval (.tmp 71) = (.int .i64 n) := by have := hfk 4 (K5.mem_needs (by kernel_rfl)) _ rfl; rw [hRs] at this; exact this
        rw [hRs]
        refine K5.hop_plain rfl ?_
        have kf : fa.eval (.func 29) = .func (.func 29) #[] #[] := rfl
        have hj : PairT base T1 T2 d m h h' A A' fw := hfJ rfl
        refine K5.out_call (f := 29) (args := #[fa.eval (.tmp 67), fa.eval (.tmp 69), fa.eval (.tmp 71)]) (by generalize fa.eval = ρ at *; simp [execOp, kf, go_sem]) ?_
        rw [k67, k69, k71]
        refine (cCut hj.c (fun k hk => (hj.b1 k hk).2) ok1 ok2 x n hnr).mono fun e w9 q => ?_
        exact ⟨_, q.e, by rw [Hrr.out]; rfl, q.k.mono (fun k hk => .inl hk), _, hj.one q.d q.k, fun k hk => hk.imp id (fun x => Nat.le_trans (hdk.trans' hfB).size x.1)⟩
      refine K5.rel_cons (Φ := K5.Hop _ _ _ _ _ _ _ _) (k := 6) ?_ ?_
      · intro fa fw hfB hfJ hfE hfk hft
        have k1 : fa.eval (.tmp 1) = .pointer (some ⟨m, 0, none⟩) := hft 1 (K5.mem_looks (by kernel_rfl)) (K5.noneed (by kernel_rfl))
        rw [hRs]
        refine K5.hop_plain rfl ?_
        refine K5.out_move rfl ?_
        exact ⟨k1, Below.refl _ _⟩
      refine K5.rel_cons (Φ := K5.Hop _ _ _ _ _ _ _ _) (k := 7) ?_ ?_
      · intro fa fw hfB hfJ hfE hfk hft
        have k5 : fa.eval (.tmp 5) = .pointer (some ⟨w.heap.size, 0, none⟩) := hft 5 (K5.mem_looks (by kernel_rfl)) (K5.noneed (by kernel_rfl))
        rw [hRs]
        refine K5.hop_plain rfl ?_
        have kc : ∀ v, fa.eval (.const v) = v := fun _ => rfl
        generalize fa.eval = ρ at *
        exact K5.out_run (v := .pointer (some ⟨w.heap.size, 1, none⟩)) (w' := fw) (by simp [execOp, kc, k5, go_sem]) ⟨rfl, Below.refl _ _⟩
      refine K5.rel_cons (Φ := K5.Hop _ _ _ _ _ _ _ _) (k := 8) ?_ ?_
      · intro fa fw hfB hfJ hfE hfk hft
        have k74 : fa.eval (.tmp 74) = (.pointer (some ⟨w.heap.size, 1, none⟩)) := by have := hfk 7 (K5.mem_needs (by kernel_rfl)) _ rfl; rw [hRs] at this; exact this
        rw [hRs]
        refine K5.hop_plain rfl ?_
        exact out_load5 rfl k74 (HL1.out fw (hdk.trans' hfB)) ⟨rfl, Below.refl _ _⟩
      refine K5.rel_cons (Φ := K5.Hop _ _ _ _ _ _ _ _) (k := 9) ?_ ?_
      · intro fa fw hfB hfJ hfE hfk hft
        have k5 : fa.eval (.tmp 5) = .pointer (some ⟨w.heap.size, 0, none⟩) := hft 5 (K5.mem_looks (by kernel_rfl)) (K5.noneed (by kernel_rfl))
        rw [hRs]
        refine K5.hop_plain rfl ?_
        have kc : ∀ v, fa.eval (.const v) = v := fun _ => rfl
        generalize fa.eval = ρ at *
        exact K5.out_run (v := .pointer (some ⟨w.heap.size, 3, none⟩)) (w' := fw) (by simp [execOp, kc, k5, go_sem]) ⟨rfl, Below.refl _ _⟩
      refine K5.rel_cons (Φ := K5.Hop _ _ _ _ _ _ _ _) (k := 10) ?_ ?_
      · intro fa fw hfB hfJ hfE hfk hft
        have k76 : fa.eval (.tmp 76) = (.pointer (some ⟨w.heap.size, 3, none⟩)) := by have := hfk 9 (K5.mem_needs (by kernel_rfl)) _ rfl; rw [hRs] at this; exact this
        rw [hRs]
        refine K5.hop_plain rfl ?_
        exact out_load5 rfl k76 (HL3.out fw (hdk.trans' hfB)) ⟨rfl, Below.refl _ _⟩
      refine K5.rel_cons (Φ := K5.Hop _ _ _ _ _ _ _ _) (k := 11) ?_ ?_
      · intro fa fw hfB hfJ hfE hfk hft
        have k73 : fa.eval (.tmp 73) = (.pointer (some ⟨m, 0, none⟩)) := by have := hfk 6 (K5.mem_needs (by kernel_rfl)) _ rfl; rw [hRs] at this; exact this
        have k75 : fa.eval (.tmp 75) = (.string x) := by have := hfk 8 (K5.mem_needs (by kernel_rfl)) _ rfl; rw [hRs] at this; exact this
        have k77 : fa.eval (.tmp 77) = (.int .i64 n) := by have := hfk 10 (K5.mem_needs (by kernel_rfl)) _ rfl; rw [hRs] at this; exact this
        rw [hRs]
        refine K5.hop_plain rfl ?_
        have kf : fa.eval (.func 34) = .func (.func 34) #[] #[] := rfl
        obtain ⟨T1', hj, hq1⟩ : ∃ T1', PairT base T1' T2 d m _ h' _ A' fw ∧ ∀ k, T1' k → T1 k ∨ wb.heap.size ≤ k := hfJ rfl
        refine K5.out_call (f := 34) (args := #[fa.eval (.tmp 73), fa.eval (.tmp 75), fa.eval (.tmp 77)]) (by generalize fa.eval = ρ at *; simp [execOp, kf, go_sem]) ?_
        rw [k73, k75, k77]
        refine ((by rw [← rl.find]; exact rCut hj.r ok4 x n hnr : Calls Try.prog 34 _ fw (RR T2 m fw (stepR h' A' (cutR A' x n.toNat) (if findA h A x ≠ 0 then findA h A x else if n < 0 then 1 else 0) 1)))).mono fun e w9 q => ?_
        exact ⟨_, q.e, by rw [← HEq.out]; rfl, q.k.mono (fun k hk => .inr hk), _, _, hj.two q.d q.k, hq1, fun k hk => hk.imp id (fun x => Nat.le_trans (hdk.trans' hfB).size x.1)⟩
      refine K5.rel_cons (Φ := K5.Hop _ _ _ _ _ _ _ _) (k := 12) ?_ ?_
      · intro fa fw hfB hfJ hfE hfk hft
        have k72 : fa.eval (.tmp 72) = (.int .i64 rr) := by have := hfk 5 (K5.mem_needs (by kernel_rfl)) _ rfl; rw [hRs] at this; exact this
        have k78 : fa.eval (.tmp 78) = (.int .i64 rr) := by have := hfk 11 (K5.mem_needs (by kernel_rfl)) _ rfl; rw [hRs] at this; exact this
        rw [hRs]
        refine K5.hop_plain rfl ?_
        have kc : ∀ v, fa.eval (.const v) = v := fun _ => rfl
        generalize fa.eval = ρ at *
        exact K5.out_run (v := .bool true) (w' := fw) (by simp [execOp, kc, k72, k78, go_sem]) ⟨rfl, Below.refl _ _⟩
      refine K5.rel_cons (Φ := K5.Hop _ _ _ _ _ _ _ _) (k := 13) ?_ ?_
      · intro fa fw hfB hfJ hfE hfk hft
        have k79 : fa.eval (.tmp 79) = (.bool true) := by have := hfk 12 (K5.mem_needs (by kernel_rfl)) _ rfl; rw [hRs] at this; exact this
        rw [hRs]
        refine K5.hop_plain rfl ?_
        refine K5.out_assign rfl ?_
        exact ⟨k79, Below.refl _ _⟩
      exact K5.rel_nil
    · intro fa fw hfB hfJ hfy hff hfs hfd
      rw [hRs] at hfy
      have k6 : fa.eval (.tmp 6) = (.bool true) := hfy 13 _ rfl (K5.unkilled (by decide))
      obtain ⟨T1', T2', hfin, hq1, hq2⟩ : ∃ T1' T2', PairT base T1' T2' d m _ _ _ _ fw ∧ (∀ k, T1' k → T1 k ∨ wb.heap.size ≤ k) ∧ ∀ k, T2' k → T2 k ∨ wb.heap.size ≤ k := hfJ
      have HQ1 := Lib.hid hq1
      have HQ2 := Lib.hid hq2
      clear hq1 hq2
      have HP := Lib.hid hfin
      have HK := Lib.hid ((Kept.of_below HBb.out).trans' (hdk.trans' hfB))
      clear hfin hfB
      have e := K5.rel_frame [67, 68, 69, 70, 71, 72, 73, 74, 75, 76, 77, 78, 79, 6] (by kernel_rfl) hff hfs hfd
      simp only [List.foldl] at e
      rw [show fa.tmps.getD 6 undef = .bool true from k6] at e
      clear hfy hff hfs hfd k6
      generalize fa.tmps.getD 67 undef = x67 at e
      generalize fa.tmps.getD 68 undef = x68 at e
      generalize fa.tmps.getD 69 undef = x69 at e
      generalize fa.tmps.getD 70 undef = x70 at e
      generalize fa.tmps.getD 71 undef = x71 at e
      generalize fa.tmps.getD 72 undef = x72 at e
      generalize fa.tmps.getD 73 undef = x73 at e
      generalize fa.tmps.getD 74 undef = x74 at e
      generalize fa.tmps.getD 75 undef = x75 at e
      generalize fa.tmps.getD 76 undef = x76 at e
      generalize fa.tmps.getD 77 undef = x77 at e
      generalize fa.tmps.getD 78 undef = x78 at e
      generalize fa.tmps.getD 79 undef = x79 at e
      simp [List.setIfInBounds_toArray, List.set_cons_succ, List.set_cons_zero] at e
      subst e
      go_wp2_with fail
      go_ret
      exact ⟨rfl, _, _, _, _, by rw [HR2.out]; exact HP.out, by rw [HR2.out]; exact HRel.out, HK.out, (fun k hk => (HQ1.out k hk).imp id (Nat.le_trans HBb.out.size)), fun k hk => (HQ2.out k hk).imp id (Nat.le_trans HBb.out.size)⟩
  · have HR2 : Hid (r = (stepA h A (renA A x z) (if findA h A x ≠ 0 then findA h A x else if goodN z = true then 0 else 1) 1).2) := Lib.hid (hr.trans rfl)
    clear hr
    go_enter Try.func14, Try.ntmps14
    go_wp2_with fail
    generalize w.alloc (.cells #[.int .i64 4, .string x, .string z, .int .i64 n, .int .i64 k, .bool t, .slice pu bs.length cu] 31) = wb at *
    have HPb := Lib.hid (P.below HBb.out)
    have Hby : Hid (Byt (fun k => T1 k ∨ T2 k) wb (.slice pu bs.length cu) bs) := Lib.hid (HOk.out.b.kept (Kept.of_below HBb.out))
    have HL1 : Hid (∀ w9, Kept (fun k => T1 k ∨ T2 k) wb w9 → (loadVar 9 ⟨w.heap.size, 1, none⟩).run Try.prog w9 = .ok (.string x) w9) := Lib.hid (fun w9 h9 => by have e := block_cell ((h9.block w.heap.size (lt_of_block Hbx.out) (fun hk => by rcases hk with hk | hk; exact absurd (P.b1 _ hk).2 (by omega); exact absurd (P.b2 _ hk).2 (by omega))).trans Hbx.out) 1; simp [go_sem, e])
    have HL2 : Hid (∀ w9, Kept (fun k => T1 k ∨ T2 k) wb w9 → (loadVar 9 ⟨w.heap.size, 2, none⟩).run Try.prog w9 = .ok (.string z) w9) := Lib.hid (fun w9 h9 => by have e := block_cell ((h9.block w.heap.size (lt_of_block Hbx.out) (fun hk => by rcases hk with hk | hk; exact absurd (P.b1 _ hk).2 (by omega); exact absurd (P.b2 _ hk).2 (by omega))).trans Hbx.out) 2; simp [go_sem, e])
    clear P c0
    obtain ⟨heq, hrel⟩ := rl.rename x z
    have HRel := Lib.hid hrel
    obtain ⟨rr, hrr⟩ : ∃ q, q = (stepA h A (renA A x z) (if findA h A x ≠ 0 then findA h A x else if goodN z = true then 0 else 1) 1).1 := ⟨_, rfl⟩
    rw [← hrr] at heq
    have HEq := Lib.hid heq
    have Hrr := Lib.hid hrr
    clear heq hrel hrr
    have hdk : Kept (fun k => T1 k ∨ T2 k) wb wb.drew := Kept.of_below ((Below.refl _ _).drew)
    have hRL : ∃ Rs : List (Value → World → Prop), Rs = [K5.PureV (.pointer (some ⟨d, 0, none⟩)),
        K5.PureV (.pointer (some ⟨w.heap.size, 1, none⟩)),
        K5.PureV (.string x),
        K5.PureV (.pointer (some ⟨w.heap.size, 2, none⟩)),
        K5.PureV (.string z),
        K5.PureV (.int .i64 rr),
        K5.PureV (.pointer (some ⟨m, 0, none⟩)),
        K5.PureV (.pointer (some ⟨w.heap.size, 1, none⟩)),
        K5.PureV (.string x),
        K5.PureV (.pointer (some ⟨w.heap.size, 2, none⟩)),
        K5.PureV (.string z),
        K5.PureV (.int .i64 rr),
        K5.PureV (.bool true),
        K5.PureV (.bool true)] := ⟨_, rfl⟩
    obtain ⟨Rs, hRs⟩ := hRL
    refine K5.wp_region_st (fun k => T1 k ∨ T2 k) trivial (K5.RL Rs) [2, 2, 2, 2, 2, 2, 2, 2, 2, 2, 2, 2, 2, 2] [1, 1, 1, 1, 1, 2, 1, 1, 1, 1, 1, 2, 1, 1] [] (JT base wb.heap.size T1 T2 d m h h' (stepA h A (renA A x z) (if findA h A x ≠ 0 then findA h A x else if goodN z = true then 0 else 1) 1).2.1 (stepR h' A' (renR A' x z) (if findA h A x ≠ 0 then findA h A x else if goodN z = true then 0 else 1) 1).2.1 A A' (stepA h A (renA A x z) (if findA h A x ≠ 0 then findA h A x else if goodN z = true then 0 else 1) 1).2.2 (stepR h' A' (renR A' x z) (if findA h A x ≠ 0 then findA h A x else if goodN z = true then 0 else 1) 1).2.2) (JT.st _ _ _ _ _ _ _ _ _ _ _ _ _ _) (show PairT _ _ _ _ _ _ _ _ _ _ from HPb.out.below ((Below.refl _ _).drew)) (by kernel_rfl) (by kernel_rfl) (by kernel_rfl) (K5.RL.st1 (by rw [hRs]; exact K5.st1_cons (K5.PureV.st1 _) (K5.st1_cons (K5.PureV.st1 _) (K5.st1_cons (K5.PureV.st1 _) (K5.st1_cons (K5.PureV.st1 _) (K5.st1_cons (K5.PureV.st1 _) (K5.st1_cons (K5.PureV.st1 _) (K5.st1_cons (K5.PureV.st1 _) (K5.st1_cons (K5.PureV.st1 _) (K5.st1_cons (K5.PureV.st1 _) (K5.st1_cons (K5.PureV.st1 _) (K5.st1_cons (K5.PureV.st1 _) (K5.st1_cons (K5.PureV.st1 _) (K5.st1_cons (K5.PureV.st1 _) (K5.st1_cons (K5.PureV.st1 _) (K5.st1_nil)))))))))))))))) (K5.RL.st2 (by rw [hRs]; exact K5.st2_cons (K5.PureV.st2 _ _ _) (K5.st2_cons (K5.PureV.st2 _ _ _) (K5.st2_cons (K5.PureV.st2 _ _ _) (K5.st2_cons (K5.PureV.st2 _ _ _) (K5.st2_cons (K5.PureV.st2 _ _ _) (K5.st2_cons (K5.PureV.st2 _ _ _) (K5.st2_cons (K5.PureV.st2 _ _ _) (K5.st2_cons (K5.PureV.st2 _ _ _) (K5.st2_cons (K5.PureV.st2 _ _ _) (K5.st2_cons (K5.PureV.st2 _ _ _) (K5.st2_cons (K5.PureV.st2 _ _ _) (K5.st2_cons (K5.PureV.st2 _ _ _) (K5.st2_cons (K5.PureV.st2 _ _ _) (K5.st2_cons (K5.PureV.st2 _ _ _) (K5.st2_nil)))))))))))))))) ?_ ?_ ?_
    · intro i o d hi hd
      have hmem := List.mem_of_getElem? hi
      simp only [List.mem_cons, List.not_mem_nil, or_false] at hmem
      rcases hmem with rfl | rfl | rfl | rfl | rfl | rfl | rfl | rfl | rfl | rfl | rfl | rfl | rfl | rfl <;> simp at hd <;> (subst hd; simp)
    · refine K5.rel_start (Φ := K5.Hop _ _ _ _ _ _ _ _) ?_
      refine K5.rel_cons (Φ := K5.Hop _ _ _ _ _ _ _ _) (k := 0) ?_ ?_
      · intro fa fw hfB hfJ hfE hfk hft
        have k0 : fa.eval (.tmp 0) = .pointer (some ⟨d, 0, none⟩) := hft 0 (K5.mem_looks (by kernel_rfl)) (K5.noneed (by kernel_rfl))
        rw [hRs]
        refine K5.hop_plain rfl ?_
        refine K5.out_move rfl ?_
        exact ⟨k0, Below.refl _ _⟩
      refine K5.rel_cons (Φ := K5.Hop _ _ _ _ _ _ _ _) (k := 1) ?_ ?_
      · intro fa fw hfB hfJ hfE hfk hft
        have k5 : fa.eval (.tmp 5) = .pointer (some ⟨w.heap.size, 0, none⟩) := hft 5 (K5.mem_looks (by kernel_rfl)) (K5.noneed (by kernel_rfl))
        rw [hRs]
        refine K5.hop_plain rfl ?_
        have kc : ∀ v, fa.eval (.const v) = v := fun _ => rfl
        generalize fa.eval = ρ at *
        exact K5.out_run (v := .pointer (some ⟨w.heap.size, 1, none⟩)) (w' := fw) (by simp [execOp, kc, k5, go_sem]) ⟨rfl, Below.refl _ _⟩
      refine K5.rel_cons (Φ := K5.Hop _ _ _ _ _ _ _ _) (k := 2) ?_ ?_
      · intro fa fw hfB hfJ hfE hfk hft
        have k83 : fa.eval (.tmp 83) = (.pointer (some ⟨w.heap.size, 1, none⟩)) := by have := hfk 1 (K5.mem_needs (by kernel_rfl)) _ rfl; rw [hRs] at this; exact this
        rw [hRs]
        refine K5.hop_plain rfl ?_
        exact out_load5 rfl k83 (HL1.out fw (hdk.trans' hfB)) ⟨rfl, Below.refl _ _⟩
      refine K5.rel_cons (Φ := K5.Hop _ _ _ _ _ _ _ _) (k := 3) ?_ ?_
      · intro fa fw hfB hfJ hfE hfk hft
        have k5 : fa.eval (.tmp 5) = .pointer (some ⟨w.heap.size, 0, none⟩) := hft 5 (K5.mem_looks (by kernel_rfl)) (K5.noneed (by kernel_rfl))
        rw [hRs]
        refine K5.hop_plain rfl ?_
        have kc : ∀ v, fa.eval (.const v) = v := fun _ => rfl
        generalize fa.eval = ρ at *
        exact K5.out_run (v := .pointer (some ⟨w.heap.size, 2, none⟩)) (w' := fw) (by simp [execOp, kc, k5, go_sem]) ⟨rfl, Below.refl _ _⟩
      refine K5.rel_cons (Φ := K5.Hop _ _ _ _ _ _ _ _) (k := 4) ?_ ?_
      · intro fa fw hfB hfJ hfE hfk hft
        have k85 : fa.eval (.tmp 85) = (.pointer (some ⟨w.heap.size, 2, none⟩)) := by have := hfk 3 (K5.mem_needs (by kernel_rfl)) _ rfl; rw [hRs] at this; exact this
        rw [hRs]
        refine K5.hop_plain rfl ?_
        exact out_load5 rfl k85 (HL2.out fw (hdk.trans' hfB)) ⟨rfl, Below.refl _ _⟩
      refine K5.rel_cons (Φ := K5.Hop _ _ _ _ _ _ _ _) (k := 5) ?_ ?_
      · intro fa fw hfB hfJ hfE hfk hft
        have k82 : fa.eval (.tmp 82) = (.pointer (some ⟨d, 0, none⟩)) := by have := hfk 0 (K5.mem_needs (by kernel_rfl)) _ rfl; rw [hRs] at this; exact this
        have k84 : fa.eval (.tmp 84) = (.string x) := by have := hfk 2 (K5.mem_needs (by kernel_rfl)) _ rfl; rw [hRs] at this; exact this
        have k86 : fa.eval (.tmp 86) = (.string z) := by have := hfk 4 (K5.mem_needs (by kernel_rfl)) _ rfl; rw [hRs] at this; exact this
        rw [hRs]
        refine K5.hop_plain rfl ?_
        have kf : fa.eval (.func 30) = .func (.func 30) #[] #[] := rfl
        have hj : PairT base T1 T2 d m h h' A A' fw := hfJ rfl
        refine K5.out_call (f := 30) (args := #[fa.eval (.tmp 82), fa.eval (.tmp 84), fa.eval (.tmp 86)]) (by generalize fa.eval = ρ at *; simp [execOp, kf, go_sem]) ?_
        rw [k82, k84, k86]
        refine (cRename hj.c (fun k hk => (hj.b1 k hk).2) ok1 ok2 ok3 x z).mono fun e w9 q => ?_
        exact ⟨_, q.e, by rw [Hrr.out]; rfl, q.k.mono (fun k hk => .inl hk), _, hj.one q.d q.k, fun k hk => hk.imp id (fun x => Nat.le_trans (hdk.trans' hfB).size x.1)⟩
      refine K5.rel_cons (Φ := K5.Hop _ _ _ _ _ _ _ _) (k := 6) ?_ ?_
      · intro fa fw hfB hfJ hfE hfk hft
        have k1 : fa.eval (.tmp 1) = .pointer (some ⟨m, 0, none⟩) := hft 1 (K5.mem_looks (by kernel_rfl)) (K5.noneed (by kernel_rfl))
        rw [hRs]
        refine K5.hop_plain rfl ?_
        refine K5.out_move rfl ?_
        exact ⟨k1, Below.refl _ _⟩
      refine K5.rel_cons (Φ := K5.Hop _ _ _ _ _ _ _ _) (k := 7) ?_ ?_
      · intro fa fw hfB hfJ hfE hfk hft
        have k5 : fa.eval (.tmp 5) = .pointer (some ⟨w.heap.size, 0, none⟩) := hft 5 (K5.mem_looks (by kernel_rfl)) (K5.noneed (by kernel_rfl))
        rw [hRs]
        refine K5.hop_plain rfl ?_
        have kc : ∀ v, fa.eval (.const v) = v := fun _ => rfl
        generalize fa.eval = ρ at *
        exact K5.out_run (v := .pointer (some ⟨w.heap.size, 1, none⟩)) (w' := fw) (by simp [execOp, kc, k5, go_sem]) ⟨rfl, Below.refl _ _⟩
      refine K5.rel_cons (Φ := K5.Hop _ _ _ _ _ _ _ _) (k := 8) ?_ ?_
      · intro fa fw hfB hfJ hfE hfk hft
        have k89 : fa.eval (.tmp 89) = (.pointer (some ⟨w.heap.size, 1, none⟩)) := by have := hfk 7 (K5.mem_needs (by kernel_rfl)) _ rfl; rw [hRs] at this; exact this
        rw [hRs]
        refine K5.hop_plain rfl ?_
        exact out_load5 rfl k89 (HL1.out fw (hdk.trans' hfB)) ⟨rfl, Below.refl _ _⟩
      refine K5.rel_cons (Φ := K5.Hop _ _ _ _ _ _ _ _) (k := 9) ?_ ?_
      · intro fa fw hfB hfJ hfE hfk hft
        have k5 : fa.eval (.tmp 5) = .pointer (some ⟨w.heap.size, 0, none⟩) := hft 5 (K5.mem_looks (by kernel_rfl)) (K5.noneed (by kernel_rfl))
        rw [hRs]
        refine K5.hop_plain rfl ?_
        have kc : ∀ v, fa.eval (.const v) = v := fun _ => rfl
        generalize fa.eval = ρ at *
        exact K5.out_run (v := .pointer (some ⟨w.heap.size, 2, none⟩)) (w' := fw) (by simp [execOp, kc, k5, go_sem]) ⟨rfl, Below.refl _ _⟩
      refine K5.rel_cons (Φ := K5.Hop _ _ _ _ _ _ _ _) (k := 10) ?_ ?_
      · intro fa fw hfB hfJ hfE hfk hft
        have k91 : fa.eval (.tmp 91) = (.pointer (some ⟨w.heap.size, 2, none⟩)) := by have := hfk 9 (K5.mem_needs (by kernel_rfl)) _ rfl; rw [hRs] at this; exact this
        rw [hRs]
        refine K5.hop_plain rfl ?_
        exact out_load5 rfl k91 (HL2.out fw (hdk.trans' hfB)) ⟨rfl, Below.refl _ _⟩
      refine K5.rel_cons (Φ := K5.Hop _ _ _ _ _ _ _ _) (k := 11) ?_ ?_
      · intro fa fw hfB hfJ hfE hfk hft
        have k88 : fa.eval (.tmp 88) = (.pointer (some ⟨m, 0, none⟩)) := by have := hfk 6 (K5.mem_needs (by kernel_rfl)) _ rfl; rw [hRs] at this; exact this
        have k90 : fa.eval (.tmp 90) = (.string x) := by have := hfk 8 (K5.mem_needs (by kernel_rfl)) _ rfl; rw [hRs] at this; exact this
        have k92 : fa.eval (.tmp 92) = (.string z) := by have := hfk 10 (K5.mem_needs (by kernel_rfl)) _ rfl; rw [hRs] at this; exact this
        rw [hRs]
        refine K5.hop_plain rfl ?_
        have kf : fa.eval (.func 35) = .func (.func 35) #[] #[] := rfl
        obtain ⟨T1', hj, hq1⟩ : ∃ T1', PairT base T1' T2 d m _ h' _ A' fw ∧ ∀ k, T1' k → T1 k ∨ wb.heap.size ≤ k := hfJ rfl
        refine K5.out_call (f := 35) (args := #[fa.eval (.tmp 88), fa.eval (.tmp 90), fa.eval (.tmp 92)]) (by generalize fa.eval = ρ at *; simp [execOp, kf, go_sem]) ?_
        rw [k88, k90, k92]
        refine ((by rw [← rl.find]; exact rRename hj.r (fun k hk => (hj.b2 k hk).2) ok4 x z : Calls Try.prog 35 _ fw (RR T2 m fw (stepR h' A' (renR A' x z) (if findA h A x ≠ 0 then findA h A x else if goodN z = true then 0 else 1) 1)))).mono fun e w9 q => ?_
        exact ⟨_, q.e, by rw [← HEq.out]; rfl, q.k.mono (fun k hk => .inr hk), _, _, hj.two q.d q.k, hq1, fun k hk => hk.imp id (fun x => Nat.le_trans (hdk.trans' hfB).size x.1)⟩
      refine K5.rel_cons (Φ := K5.Hop _ _ _ _ _ _ _ _) (k := 12) ?_ ?_
      · intro fa fw hfB hfJ hfE hfk hft
        have k87 : fa.eval (.tmp 87) = (.int .i64 rr) := by have := hfk 5 (K5.mem_needs (by kernel_rfl)) _ rfl; rw [hRs] at this; exact this
        have k93 : fa.eval (.tmp 93) = (.int .i64 rr) := by have := hfk 11 (K5.mem_needs (by kernel_rfl)) _ rfl; rw [hRs] at this; exact this
        rw [hRs]
        refine K5.hop_plain rfl ?_
        have kc : ∀ v, fa.eval (.const v) = v := fun _ => rfl
        generalize fa.eval = ρ at *
        exact K5.out_run (v := .bool true) (w' := fw) (by simp [execOp, kc, k87, k93, go_sem]) ⟨rfl, Below.refl _ _⟩
      refine K5.rel_cons (Φ := K5.Hop _ _ _ _ _ _ _ _) (k := 13) ?_ ?_
      · intro fa fw hfB hfJ hfE hfk hft
        have k94 : fa.eval (.tmp 94) = (.bool true) := by have := hfk 12 (K5.mem_needs (by kernel_rfl)) _ rfl; rw [hRs] at this; exact this
        rw [hRs]
        refine K5.hop_plain rfl ?_
        refine K5.out_assign rfl ?_
        exact ⟨k94, Below.refl _ _⟩
      exact K5.rel_nil
    · intro fa fw hfB hfJ hfy hff hfs hfd
      rw [hRs] at hfy
      have k6 : fa.eval (.tmp 6) = (.bool true) := hfy 13 _ rfl (K5.unkilled (by decide))
      obtain ⟨T1', T2', hfin, hq1, hq2⟩ : ∃ T1' T2', PairT base T1' T2' d m _ _ _ _ fw ∧ (∀ k, T1' k → T1 k ∨ wb.heap.size ≤ k) ∧ ∀ k, T2' k → T2 k ∨ wb.heap.size ≤ k := hfJ
      have HQ1 := Lib.hid hq1
      have HQ2 := Lib.hid hq2
      clear hq1 hq2
      have HP := Lib.hid hfin
      have HK := Lib.hid ((Kept.of_below HBb.out).trans' (hdk.trans' hfB))
      clear hfin hfB
      have e := K5.rel_frame [82, 83, 84, 85, 86, 87, 88, 89, 90, 91, 92, 93, 94, 6] (by kernel_rfl) hff hfs hfd
      simp only [List.foldl] at e
      rw [show fa.tmps.getD 6 undef = .bool true from k6] at e
      clear hfy hff hfs hfd k6
      generalize fa.tmps.getD 82 undef = x82 at e
      generalize fa.tmps.getD 83 undef = x83 at e
      generalize fa.tmps.getD 84 undef = x84 at e
      generalize fa.tmps.getD 85 undef = x85 at e
      generalize fa.tmps.getD 86 undef = x86 at e
      generalize fa.tmps.getD 87 undef = x87 at e
      generalize fa.tmps.getD 88 undef = x88 at e
      generalize fa.tmps.getD 89 undef = x89 at e
      generalize fa.tmps.getD 90 undef = x90 at e
      generalize fa.tmps.getD 91 undef = x91 at e
      generalize fa.tmps.getD 92 undef = x92 at e
      generalize fa.tmps.getD 93 undef = x93 at e
      generalize fa.tmps.getD 94 undef = x94 at e
      simp [List.setIfInBounds_toArray, List.set_cons_succ, List.set_cons_zero] at e
      subst e
      go_wp2_with fail
      go_ret
      exact ⟨rfl, _, _, _, _, by rw [HR2.out]; exact HP.out, by rw [HR2.out]; exact HRel.out, HK.out, (fun k hk => (HQ1.out k hk).imp id (Nat.le_trans HBb.out.size)), fun k hk => (HQ2.out k hk).imp id (Nat.le_trans HBb.out.size)⟩
  · have HR2 : Hid (r = (stepA h A (drpA A x) (findA h A x) 1).2) := Lib.hid (hr.trans rfl)
    clear hr
    go_enter Try.func14, Try.ntmps14
    go_wp2_with fail
    generalize w.alloc (.cells #[.int .i64 5, .string x, .string z, .int .i64 n, .int .i64 k, .bool t, .slice pu bs.length cu] 31) = wb at *
    have HPb := Lib.hid (P.below HBb.out)
    have Hby : Hid (Byt (fun k => T1 k ∨ T2 k) wb (.slice pu bs.length cu) bs) := Lib.hid (HOk.out.b.kept (Kept.of_below HBb.out))
    have HL1 : Hid (∀ w9, Kept (fun k => T1 k ∨ T2 k) wb w9 → (loadVar 9 ⟨w.heap.size, 1, none⟩).run Try.prog w9 = .ok (.string x) w9) := Lib.hid (fun w9 h9 => by have e := block_cell ((h9.block w.heap.size (lt_of_block Hbx.out) (fun hk => by rcases hk with hk | hk; exact absurd (P.b1 _ hk).2 (by omega); exact absurd (P.b2 _ hk).2 (by omega))).trans Hbx.out) 1; simp [go_sem, e])
    clear P c0
    obtain ⟨heq, hrel⟩ := rl.remove x
    have HRel := Lib.hid hrel
    obtain ⟨rr, hrr⟩ : ∃ q, q = (stepA h A (drpA A x) (findA h A x) 1).1 := ⟨_, rfl⟩
    rw [← hrr] at heq
    have HEq := Lib.hid heq
    have Hrr := Lib.hid hrr
    clear heq hrel hrr
    have hdk : Kept (fun k => T1 k ∨ T2 k) wb wb.drew := Kept.of_below ((Below.refl _ _).drew)
    have hRL : ∃ Rs : List (Value → World → Prop), Rs = [K5.PureV (.pointer (some ⟨d, 0, none⟩)),
        K5.PureV (.pointer (some ⟨w.heap.size, 1, none⟩)),
        K5.PureV (.string x),
        K5.PureV (.int .i64 rr),
        K5.PureV (.pointer (some ⟨m, 0, none⟩)),
        K5.PureV (.pointer (some ⟨w.heap.size, 1, none⟩)),
        K5.PureV (.string x),
        K5.PureV (.int .i64 rr),
        K5.PureV (.bool true),
        K5.PureV (.bool true)] := ⟨_, rfl⟩
    obtain ⟨Rs, hRs⟩ := hRL
    refine K5.wp_region_st (fun k => T1 k ∨ T2 k) trivial (K5.RL Rs) [2, 2, 2, 2, 2, 2, 2, 2, 2, 2] [1, 1, 1, 2, 1, 1, 1, 2, 1, 1] [] (JT base wb.heap.size T1 T2 d m h h' (stepA h A (drpA A x) (findA h A x) 1).2.1 (stepR h' A' (drpA A' x) (findA h A x) 1).2.1 A A' (stepA h A (drpA A x) (findA h A x) 1).2.2 (stepR h' A' (drpA A' x) (findA h A x) 1).2.2) (JT.st _ _ _ _ _ _ _ _ _ _ _ _ _ _) (show PairT _ _ _ _ _ _ _ _ _ _ from HPb.out.below ((Below.refl _ _).drew)) (by kernel_rfl) (by kernel_rfl) (by kernel_rfl) (K5.RL.st1 (by rw [hRs]; exact K5.st1_cons (K5.PureV.st1 _) (K5.st1_cons (K5.PureV.st1 _) (K5.st1_cons (K5.PureV.st1 _) (K5.st1_cons (K5.PureV.st1 _) (K5.st1_cons (K5.PureV.st1 _) (K5.st1_cons (K5.PureV.st1 _) (K5.st1_cons (K5.PureV.st1 _) (K5.st1_cons (K5.PureV.st1 _) (K5.st1_cons (K5.PureV.st1 _) (K5.st1_cons (K5.PureV.st1 _) (K5.st1_nil)))))))))))) (K5.RL.st2 (by rw [hRs]; exact K5.st2_cons (K5.PureV.st2 _ _ _) (K5.st2_cons (K5.PureV.st2 _ _ _) (K5.st2_cons (K5.PureV.st2 _ _ _) (K5.st2_cons (K5.PureV.st2 _ _ _) (K5.st2_cons (K5.PureV.st2 _ _ _) (K5.st2_cons (K5.PureV.st2 _ _ _) (K5.st2_cons (K5.PureV.st2 _ _ _) (K5.st2_cons (K5.PureV.st2 _ _ _) (K5.st2_cons (K5.PureV.st2 _ _ _) (K5.st2_cons (K5.PureV.st2 _ _ _) (K5.st2_nil)))))))))))) ?_ ?_ ?_
    · intro i o d hi hd
      have hmem := List.mem_of_getElem? hi
      simp only [List.mem_cons, List.not_mem_nil, or_false] at hmem
      rcases hmem with rfl | rfl | rfl | rfl | rfl | rfl | rfl | rfl | rfl | rfl <;> simp at hd <;> (subst hd; simp)
    · refine K5.rel_start (Φ := K5.Hop _ _ _ _ _ _ _ _) ?_
      refine K5.rel_cons (Φ := K5.Hop _ _ _ _ _ _ _ _) (k := 0) ?_ ?_
      · intro fa fw hfB hfJ hfE hfk hft
        have k0 : fa.eval (.tmp 0) = .pointer (some ⟨d, 0, none⟩) := hft 0 (K5.mem_looks (by kernel_rfl)) (K5.noneed (by kernel_rfl))
        rw [hRs]
        refine K5.hop_plain rfl ?_
        refine K5.out_move rfl ?_
        exact ⟨k0, Below.refl _ _⟩
      refine K5.rel_cons (Φ := K5.Hop _ _ _ _ _ _ _ _) (k := 1) ?_ ?_
      · intro fa fw hfB hfJ hfE hfk hft
        have k5 : fa.eval (.tmp 5) = .pointer (some ⟨w.heap.size, 0, none⟩) := hft 5 (K5.mem_looks (by kernel_rfl)) (K5.noneed (by kernel_rfl))
        rw [hRs]
        refine K5.hop_plain rfl ?_
        have kc : ∀ v, fa.eval (.const v) = v := fun _ => rfl
        generalize fa.eval = ρ at *
        exact K5.out_run (v := .pointer (some ⟨w.heap.size, 1, none⟩)) (w' := fw) (by simp [execOp, kc, k5, go_sem]) ⟨rfl, Below.refl _ _⟩
      refine K5.rel_cons (Φ := K5.Hop _ _ _ _ _ _ _ _) (k := 2) ?_ ?_
      · intro fa fw hfB hfJ hfE hfk hft
        have k98 : fa.eval (.tmp 98) = (.pointer (some ⟨w.heap.size, 1, none⟩)) := by have := hfk 1 (K5.mem_needs (by kernel_rfl)) _ rfl; rw [hRs] at this; exact this
        rw [hRs]
        refine K5.hop_plain rfl ?_
        exact out_load5 rfl k98 (HL1.out fw (hdk.trans' hfB)) ⟨rfl, Below.refl _ _⟩
      refine K5.rel_cons (Φ := K5.Hop _ _ _ _ _ _ _ _) (k := 3) ?_ ?_
      · intro fa fw hfB hfJ hfE hfk hft
        have k97 : fa.eval (.tmp 97) = (.pointer (some ⟨d, 0, none⟩)) := by have := hfk 0 (K5.mem_needs (by kernel_rfl)) _ rfl; rw [hRs] at this; exact this
        have k99 : fa.eval (.tmp 99) = (.string x) := by have := hfk 2 (K5.mem_needs (by kernel_rfl)) _ rfl; rw [hRs] at this; exact this
        rw [hRs]
        refine K5.hop_plain rfl ?_
        have kf : fa.eval (.func 31) = .func (.func 31) #[] #[] := rfl
        have hj : PairT base T1 T2 d m h h' A A' fw := hfJ rfl
        refine K5.out_call (f := 31) (args := #[fa.eval (.tmp 97), fa.eval (.tmp 99)]) (by generalize fa.eval = ρ at *; simp [execOp, kf, go_sem]) ?_
        rw [k97, k99]
        refine (cRemove hj.c (fun k hk => (hj.b1 k hk).2) ok1 ok2 x (by unfold maxLen; omega)).mono fun e w9 q => ?_
        exact ⟨_, q.e, by rw [Hrr.out]; rfl, q.k.mono (fun k hk => .inl hk), _, hj.one q.d q.k, fun k hk => hk.imp id (fun x => Nat.le_trans (hdk.trans' hfB).size x.1)⟩
      refine K5.rel_cons (Φ := K5.Hop _ _ _ _ _ _ _ _) (k := 4) ?_ ?_
      · intro fa fw hfB hfJ hfE hfk hft
        have k1 : fa.eval (.tmp 1) = .pointer (some ⟨m, 0, none⟩) := hft 1 (K5.mem_looks (by kernel_rfl)) (K5.noneed (by kernel_rfl))
        rw [hRs]
        refine K5.hop_plain rfl ?_
        refine K5.out_move rfl ?_
        exact ⟨k1, Below.refl _ _⟩
      refine K5.rel_cons (Φ := K5.Hop _ _ _ _ _ _ _ _) (k := 5) ?_ ?_
      · intro fa fw hfB hfJ hfE hfk hft
        have k5 : fa.eval (.tmp 5) = .pointer (some ⟨w.heap.size, 0, none⟩) := hft 5 (K5.mem_looks (by kernel_rfl)) (K5.noneed (by kernel_rfl))
        rw [hRs]
        refine K5.hop_plain rfl ?_
        have kc : ∀ v, fa.eval (.const v) = v := fun _ => rfl
        generalize fa.eval = ρ at *
        exact K5.out_run (v := .pointer (some ⟨w.heap.size, 1, none⟩)) (w' := fw) (by simp [execOp, kc, k5, go_sem]) ⟨rfl, Below.refl _ _⟩
      refine K5.rel_cons (Φ := K5.Hop _ _ _ _ _ _ _ _) (k := 6) ?_ ?_
      · intro fa fw hfB hfJ hfE hfk hft
        have k102 : fa.eval (.tmp 102) = (.pointer (some ⟨w.heap.size, 1, none⟩)) := by have := hfk 5 (K5.mem_needs (by kernel_rfl)) _ rfl; rw [hRs] at this; exact this
        rw [hRs]
        refine K5.hop_plain rfl ?_
        exact out_load5 rfl k102 (HL1.out fw (hdk.trans' hfB)) ⟨rfl, Below.refl _ _⟩
      refine K5.rel_cons (Φ := K5.Hop _ _ _ _ _ _ _ _) (k := 7) ?_ ?_
      · intro fa fw hfB hfJ hfE hfk hft
        have k101 : fa.eval (.tmp 101) = (.pointer (some ⟨m, 0, none⟩)) := by have := hfk 4 (K5.mem_needs (by kernel_rfl)) _ rfl; rw [hRs] at this; exact this
        have k103 : fa.eval (.tmp 103) = (.string x) := by have := hfk 6 (K5.mem_needs (by kernel_rfl)) _ rfl; rw [hRs] at this; exact this
        rw [hRs]
        refine K5.hop_plain rfl ?_
        have kf : fa.eval (.func 36) = .func (.func 36) #[] #[] := rfl
        obtain ⟨T1', hj, hq1⟩ : ∃ T1', PairT base T1' T2 d m _ h' _ A' fw ∧ ∀ k, T1' k → T1 k ∨ wb.heap.size ≤ k := hfJ rfl
        refine K5.out_call (f := 36) (args := #[fa.eval (.tmp 101), fa.eval (.tmp 103)]) (by generalize fa.eval = ρ at *; simp [execOp, kf, go_sem]) ?_
        rw [k101, k103]
        refine ((by rw [← rl.find]; exact rRemove hj.r ok4 x : Calls Try.prog 36 _ fw (RR T2 m fw (stepR h' A' (drpA A' x) (findA h A x) 1)))).mono fun e w9 q => ?_
        exact ⟨_, q.e, by rw [← HEq.out]; rfl, q.k.mono (fun k hk => .inr hk), _, _, hj.two q.d q.k, hq1, fun k hk => hk.imp id (fun x => Nat.le_trans (hdk.trans' hfB).size x.1)⟩
      refine K5.rel_cons (Φ := K5.Hop _ _ _ _ _ _ _ _) (k := 8) ?_ ?_
      · intro fa fw hfB hfJ hfE hfk hft
        have k100 : fa.eval (.tmp 100) = (.int .i64 rr) := by have := hfk 3 (K5.mem_needs (by kernel_rfl)) _ rfl; rw [hRs] at this; exact this
        have k104 : fa.eval (.tmp 104) = (.int .i64 rr) := by have := hfk 7 (K5.mem_needs (by kernel_rfl)) _ rfl; rw [hRs] at this; exact this
        rw [hRs]
        refine K5.hop_plain rfl ?_
        have kc : ∀ v, fa.eval (.const v) = v := fun _ => rfl
        generalize fa.eval = ρ at *
        exact K5.out_run (v := .bool true) (w' := fw) (by simp [execOp, kc, k100, k104, go_sem]) ⟨rfl, Below.refl _ _⟩
      refine K5.rel_cons (Φ := K5.Hop _ _ _ _ _ _ _ _) (k := 9) ?_ ?_
      · intro fa fw hfB hfJ hfE hfk hft
        have k105 : fa.eval (.tmp 105) = (.bool true) := by have := hfk 8 (K5.mem_needs (by kernel_rfl)) _ rfl; rw [hRs] at this; exact this
        rw [hRs]
        refine K5.hop_plain rfl ?_
        refine K5.out_assign rfl ?_
        exact ⟨k105, Below.refl _ _⟩
      exact K5.rel_nil
    · intro fa fw hfB hfJ hfy hff hfs hfd
      rw [hRs] at hfy
      have k6 : fa.eval (.tmp 6) = (.bool true) := hfy 9 _ rfl (K5.unkilled (by decide))
      obtain ⟨T1', T2', hfin, hq1, hq2⟩ : ∃ T1' T2', PairT base T1' T2' d m _ _ _ _ fw ∧ (∀ k, T1' k → T1 k ∨ wb.heap.size ≤ k) ∧ ∀ k, T2' k → T2 k ∨ wb.heap.size ≤ k := hfJ
      have HQ1 := Lib.hid hq1
      have HQ2 := Lib.hid hq2
      clear hq1 hq2
      have HP := Lib.hid hfin
      have HK := Lib.hid ((Kept.of_below HBb.out).trans' (hdk.trans' hfB))
      clear hfin hfB
      have e := K5.rel_frame [97, 98, 99, 100, 101, 102, 103, 104, 105, 6] (by kernel_rfl) hff hfs hfd
      simp only [List.foldl] at e
      rw [show fa.tmps.getD 6 undef = .bool true from k6] at e
      clear hfy hff hfs hfd k6
      generalize fa.tmps.getD 97 undef = x97 at e
      generalize fa.tmps.getD 98 undef = x98 at e
      generalize fa.tmps.getD 99 undef = x99 at e
      generalize fa.tmps.getD 100 undef = x100 at e
      generalize fa.tmps.getD 101 undef = x101 at e
      generalize fa.tmps.getD 102 undef = x102 at e
      generalize fa.tmps.getD 103 undef = x103 at e
      generalize fa.tmps.getD 104 undef = x104 at e
      generalize fa.tmps.getD 105 undef = x105 at e
      simp [List.setIfInBounds_toArray, List.set_cons_succ, List.set_cons_zero] at e
      subst e
      go_wp2_with fail
      go_ret
      exact ⟨rfl, _, _, _, _, by rw [HR2.out]; exact HP.out, by rw [HR2.out]; exact HRel.out, HK.out, (fun k hk => (HQ1.out k hk).imp id (Nat.le_trans HBb.out.size)), fun k hk => (HQ2.out k hk).imp id (Nat.le_trans HBb.out.size)⟩
end Go.Proofs.Ytfmcemedaehcoaa
