/- Walks: the statement DiskCuts. -/
import Derived.Test.YtfmcemedaehcoaaWp
namespace Go.Proofs.Ytfmcemedaehcoaa
set_option linter.unusedVariables false
set_option linter.unusedSimpArgs false
open Go.ChangeShapes Go.WideShapes Go.ChangeAt Go.RowKit Go.ChangeMaps

def GG : ByteArray := ⟨#[103]⟩
theorem wpQuiet_conv_at {P : Program} {C : World → Prop} {ops : Array Oper} {rest : List Oper} {o : Oper} {a : Act} {Q : Act → Prop} (hw : Region.wanted o (yielded ops a.tmps) = true) (t1 t2 : TypeId) (x : Operand) (ho : o.op = .convert t1 t2 x)
    (vx v : Value) (hx : a.eval x = vx) (hr : ∀ w, C w → (convert t1 t2 vx).run P w = .ok v w)
    (h : wpQuiet P ops C Q rest (a.put o.dst v)) : wpQuiet P ops C Q (o :: rest) a := by
  refine Go.BigFrame.wpQuiet_want hw fun K hK => ⟨v, fun w hw => ?_, hK _ h⟩
  unfold Oper.quietAt execOp
  simp only [ho, hx, Sem.run_bind, Sem.run_pure, Result.andThen_ok, hr w hw]
  exact ⟨rfl, rfl⟩
theorem lat_upto {w : World} {pu : Option Addr} {cu : Nat} {c : List UInt8} (h : LAt 1 bV w (.slice pu c.length cu) c) {n : Nat} (hn : n ≤ c.length) :
    ∃ p', (∀ w1, (Instr.sliceAt 29 (.slice pu c.length cu) none (some (.int .i64 (n : Nat))) none).run Try.prog w1 = .ok (.slice p' n cu) w1) ∧ LAt 1 bV w (.slice p' n cu) (c.take n) := by
  rcases h.2 with ⟨p, cap, e, rfl⟩ | ⟨b, off, cap, e, h2, h3, h4, h5⟩
  · have h0 : n = 0 := by simpa using hn
    subst h0
    exact ⟨_, fun w1 => upto_run pu _ cu 0 (Nat.zero_le _) w1, fun x _ => bV_len x, .inl ⟨_, _, rfl, rfl⟩⟩
  · injection e with e1 e2 e3
    subst e1 e3
    refine ⟨some ⟨b, off, none⟩, fun w1 => ?_, fun x _ => bV_len x, .inr ⟨b, off, cu, by rw [List.length_take, Nat.min_eq_left hn], h2, by rw [List.length_take]; omega, h4, fun j x hx => ?_⟩⟩
    · rw [upto_run _ _ cu n (by omega) w1]
      by_cases h0 : cu = 0
      · simp [h0]
      · simp [h0, add_zero']
    · rw [LF_take] at hx
      have hj : j < n := by
        have := (List.getElem?_eq_some_iff.1 hx).1
        rw [List.length_take] at this; omega
      rw [List.getElem?_take_of_lt hj] at hx
      exact h5 j x hx
theorem conv_zero (p : Option Addr) (c : Nat) (w : World) : (convert 29 9 (.slice p 0 c)).run Try.prog w = .ok (.string ByteArray.empty) w := lat_conv (show LAt 1 bV w (.slice p 0 c) [] from ⟨fun x _ => bV_len x, .inl ⟨p, c, rfl, rfl⟩⟩)
theorem own_sliceN {w : World} {v : Value} {n : Nat} {xs : List Value} (h : w.ownsRow 0 5 1 v n xs) : ∃ p c, v = .slice p n c := by
  rcases h.2 with ⟨hv, hn⟩ | ⟨g, cap, cur, hv, _⟩
  · exact ⟨_, _, by rw [hv, hn]⟩
  · exact ⟨_, _, hv⟩
theorem lose_cut {k : Int} {x : ByteArray} {p : List UInt8} {m sz : Nat} (h : keptN k (p.take m) 0 = sz) (hle : sz ≤ m) : loseA k false (x, p.take m, 0) = (x, p.take sz, (p.take sz).length) := by
  have h1 : loseD k false (p.take m) 0 = p.take sz := by
    unfold loseD
    rw [h, if_neg (by simp), Nat.zero_add, List.take_take, Nat.min_eq_left hle]
  unfold loseA
  simp only [h1]
theorem len_take {p : List UInt8} {m : Nat} (h : m ≤ p.length) : (p.take m).length = m := by rw [List.length_take]; omega
set_option maxRecDepth 100000 in
theorem cuts_great (u0 : Value) (p : List UInt8) (n : Int) (sy : Bool) (k : Int) (w : World) (h0 : BytsA w u0 p) (hg : 4096 < p.length ∨ n < 0 ∨ (p.length : Int) < n) : Calls Try.prog 9 #[u0, .int .i64 n, .bool sy, .int .i64 k] w (LawEnd w) := by
  have hl0 := h0.lat
  clear h0
  obtain ⟨pu, cu, rfl⟩ := lat_slice hl0
  have L0 := Lib.hid hl0
  clear hl0
  have HA := Lib.hid (alive_any w)
  by_cases hp : 4096 < p.length
  · have g1 : decide ((4096 : Int) < (p.length : Nat)) = true := decide_eq_true (by omega)
    go_enter Try.func9, Try.ntmps9
    go_wp2_with fail
    refine HA.out.mono ?_
    rintro e w0 ⟨rfl, hb⟩
    have B0 := Lib.hid hb
    clear hb
    go_wp2_with fail
    go_ret
    exact ⟨rfl, B0.out⟩
  · have g1 : decide ((4096 : Int) < (p.length : Nat)) = false := decide_eq_false (by omega)
    by_cases hn : n < 0
    · have g2 : decide (n < 0) = true := decide_eq_true hn
      go_enter Try.func9, Try.ntmps9
      go_wp2_with fail
      refine HA.out.mono ?_
      rintro e w0 ⟨rfl, hb⟩
      have B0 := Lib.hid hb
      clear hb
      go_wp2_with fail
      go_ret
      exact ⟨rfl, B0.out⟩
    · have g2 : decide (n < 0) = false := decide_eq_false hn
      have g3 : decide ((p.length : Int) < n) = true := decide_eq_true (by omega)
      go_enter Try.func9, Try.ntmps9
      go_wp2_with fail
      refine HA.out.mono ?_
      rintro e w0 ⟨rfl, hb⟩
      have B0 := Lib.hid hb
      clear hb
      go_wp2_with fail
      go_ret
      exact ⟨rfl, B0.out⟩
set_option maxRecDepth 100000 in
set_option maxHeartbeats 2000000 in
theorem cuts_A (u0 : Value) (p : List UInt8) (m : Nat) (k : Int) (w : World) (h0 : BytsA w u0 p) (hm4 : m ≤ p.length) (hp : p.length ≤ 4096)  : Calls Try.prog 9 #[u0, .int .i64 (m : Nat), .bool true, .int .i64 k] w (LawEnd w) := by
  have hl0 := h0.lat
  clear h0
  obtain ⟨pu, cu, rfl⟩ := lat_slice hl0
  have L0 := Lib.hid hl0
  clear hl0
  have HA := Lib.hid (alive_any w)
  have g1 : decide ((4096 : Int) < (p.length : Nat)) = false := decide_eq_false (by omega)
  have g2 : decide (((m : Nat) : Int) < 0) = false := decide_eq_false (by omega)
  have g3 : decide ((p.length : Int) < ((m : Nat) : Int)) = false := decide_eq_false (by omega)
  have hsz : m ≤ p.length := by omega
  have hlose : loseA k false (FF, p.take m, (p.take m).length) = (FF, p.take m, (p.take m).length) := lose_safe k false FF _
  have Hlose := Lib.hid hlose
  clear hlose
  have E1 := Lib.hid (show stepA (newH 1048576) [] (apdA [] FF p) (if readyE (newH 1048576) FF ≠ 0 then readyE (newH 1048576) FF else if ((newH 1048576) : Hd).room - (totA [] : Nat) < ((p : List UInt8).length : Nat) then 6 else 0) 0 = (0, ⟨1048576, 1, false, 0, 0, false⟩, [(FF, p, 0)]) from (step_ok (pre_ok (by kernel_rfl) (by show (p.length : Int) ≤ 1048576 - ((0 : Nat) : Int); omega)) (by decide)).trans (by kernel_rfl))
  have E2 := Lib.hid (show stepA ⟨1048576, 1, false, 0, 0, false⟩ [(FF, p, 0)] (apdA [(FF, p, 0)] GG p) (if readyE ⟨1048576, 1, false, 0, 0, false⟩ GG ≠ 0 then readyE ⟨1048576, 1, false, 0, 0, false⟩ GG else if (⟨1048576, 1, false, 0, 0, false⟩ : Hd).room - (totA [(FF, p, 0)] : Nat) < ((p : List UInt8).length : Nat) then 6 else 0) 0 = (0, ⟨1048576, 2, false, 0, 0, false⟩, [(FF, p, 0), (GG, p, 0)]) from (step_ok (pre_ok (by kernel_rfl) (by show (p.length : Int) ≤ 1048576 - (totA [(FF, p, 0)] : Nat); simp [totA]; omega)) (by decide)).trans (by kernel_rfl))
  have E3 := Lib.hid (show stepA ⟨1048576, 2, false, 0, 0, false⟩ [(FF, p, 0), (GG, p, 0)] (synA [(FF, p, 0), (GG, p, 0)] FF) (findA ⟨1048576, 2, false, 0, 0, false⟩ [(FF, p, 0), (GG, p, 0)] FF) 2 = (0, ⟨1048576, 3, false, 0, 0, false⟩, [(FF, p, p.length), (GG, p, 0)]) from (step_ok (by kernel_rfl) (by decide)).trans (by kernel_rfl))
  have E4 := Lib.hid (show stepA ⟨1048576, 3, false, 0, 0, false⟩ [(FF, p, p.length), (GG, p, 0)] (cutA [(FF, p, p.length), (GG, p, 0)] FF ((m : Nat) : Int).toNat) (if findA ⟨1048576, 3, false, 0, 0, false⟩ [(FF, p, p.length), (GG, p, 0)] FF ≠ 0 then findA ⟨1048576, 3, false, 0, 0, false⟩ [(FF, p, p.length), (GG, p, 0)] FF else if ((m : Nat) : Int) < 0 then 1 else 0) 1 = (0, ⟨1048576, 4, false, 0, 0, false⟩, [(FF, p.take m, (p.take m).length), (GG, p, 0)]) from (step_ok (by rw [if_neg (by simp [show findA ⟨1048576, 3, false, 0, 0, false⟩ [(FF, p, p.length), (GG, p, 0)] FF = 0 from by kernel_rfl]), if_neg (by omega)]) (by decide)).trans (by
    have hcut : cutA [(FF, p, p.length), (GG, p, 0)] FF ((m : Nat) : Int).toNat = [(FF, p.take m, (p.take m).length), (GG, p, 0)] := by
      show [(FF, p.take (min m p.length), min p.length (min m p.length)), (GG, p, 0)] = _
      rw [Nat.min_eq_left hm4, len_take hm4, Nat.min_eq_right hm4]
    rw [hcut]; rfl))
  have E5 := Lib.hid (show stepA ⟨1048576, 4, false, 0, 0, false⟩ [(FF, p.take m, (p.take m).length), (GG, p, 0)] (drpA [(FF, p.take m, (p.take m).length), (GG, p, 0)] GG) (findA ⟨1048576, 4, false, 0, 0, false⟩ [(FF, p.take m, (p.take m).length), (GG, p, 0)] GG) 1 = (0, ⟨1048576, 5, false, 0, 0, false⟩, [(FF, p.take m, (p.take m).length)]) from (step_ok (by kernel_rfl) (by decide)).trans (by kernel_rfl))
  go_enter Try.func9, Try.ntmps9
  go_wp2_with fail
  refine HA.out.mono ?_
  rintro e w0 ⟨rfl, hb⟩
  have B0 := Lib.hid hb
  clear hb
  go_wp2_with fail
  have K0 := Lib.hid (L0.out.below B0.out)
  refine (newA 1048576 _).mono ?_
  rintro e w1 ⟨rfl, d, hb⟩
  have D1 := Lib.hid d
  have B1 := Lib.hid hb
  have M1 := Lib.hid hb.size
  clear d hb
  go_wp2_with fail
  refine (appendA D1.out M1.out ⟨by decide, by decide, by decide⟩ (by simp [totA] <;> omega) (by simp) FF _ p (byt_arg K0.out B1.out) (by omega)).mono ?_
  intro e w2 h9
  obtain ⟨rfl, d, hk⟩ := h9.to E1.out
  have D2 := Lib.hid d
  have B2 := Lib.hid (B1.out.trans (hk.below (fun k hk => hk.1) (B1.out.size)))
  have M2 := Lib.hid B2.out.size
  clear d hk
  go_wp2_with fail
  refine (appendA D2.out M2.out ⟨by decide, by decide, by decide⟩ (by simp [totA] <;> omega) (by simp) GG _ p (byt_arg K0.out B2.out) (by omega)).mono ?_
  intro e w3 h9
  obtain ⟨rfl, d, hk⟩ := h9.to E2.out
  have D3 := Lib.hid d
  have B3 := Lib.hid (B2.out.trans (hk.below (fun k hk => hk.1) (B2.out.size)))
  have M3 := Lib.hid B3.out.size
  clear d hk
  go_wp2_with fail
  refine (syncA D3.out M3.out ⟨by decide, by decide, by decide⟩ (by simp [totA] <;> omega) FF).mono ?_
  intro e w4 h9
  obtain ⟨rfl, d, hk⟩ := h9.to E3.out
  have D4 := Lib.hid d
  have B4 := Lib.hid (B3.out.trans (hk.below (fun k hk => hk.1) (B3.out.size)))
  have M4 := Lib.hid B4.out.size
  clear d hk
  go_wp2_with fail
  refine (cutA_any D4.out M4.out ⟨by decide, by decide, by decide⟩ (by simp [totA] <;> omega) FF (m : Nat) (by omega)).mono ?_
  intro e w5 h9
  obtain ⟨rfl, d, hk⟩ := h9.to E4.out
  have D5 := Lib.hid d
  have B5 := Lib.hid (B4.out.trans (hk.below (fun k hk => hk.1) (B4.out.size)))
  have M5 := Lib.hid B5.out.size
  clear d hk
  go_wp2_with fail
  refine (removeA D5.out M5.out ⟨by decide, by decide, by decide⟩ (by simp [totA, List.length_take] <;> omega) GG (by decide)).mono ?_
  intro e w6 h9
  obtain ⟨rfl, d, hk⟩ := h9.to E5.out
  have D6 := Lib.hid d
  have B6 := Lib.hid (B5.out.trans (hk.below (fun k hk => hk.1) (B5.out.size)))
  have M6 := Lib.hid B6.out.size
  clear d hk
  go_wp2_with fail
  refine (offA D6.out (by simp [totA, List.length_take] <;> omega) k false).mono ?_
  rintro e w7 ⟨rfl, d, hk⟩
  have D7 := Lib.hid d
  have B7 := Lib.hid (B6.out.trans (hk.below (fun k hk => hk.1) B6.out.size))
  have M7 := Lib.hid M6.out
  clear d hk
  go_wp2_with fail
  have Dx := Lib.hid (D7.out.cast (h' := ⟨1048576, 5, true, 0, 0, false⟩) (A' := [(FF, p.take m, (p.take m).length)]) (rfl) (by rw [if_neg (by decide)]; simp only [List.map_cons, List.map_nil, Hlose.out]))
  clear D7
  have D7 := Dx
  clear Dx
  refine (onA D7.out).mono ?_
  rintro e w8 ⟨rfl, d, hk⟩
  have D8 := Lib.hid d
  have B8 := Lib.hid (B7.out.trans (hk.below (fun k hk => hk.1) B7.out.size))
  have M8 := Lib.hid M7.out
  clear d hk
  go_wp2_with fail
  have Dx := Lib.hid (D8.out.cast (h' := ⟨1048576, 5, false, 0, 0, false⟩) (A' := [(FF, p.take m, (p.take m).length)]) (rfl) (rfl))
  clear D8
  have D8 := Dx
  clear Dx
  refine (readA D8.out (by simp [totA, List.length_take] <;> omega) FF).mono ?_
  intro e w10 h9
  obtain ⟨v1, rfl, ho1, hb⟩ := h9.ok (y := (FF, p.take m, (p.take m).length)) (by kernel_rfl) (by kernel_rfl)
  replace ho1 : w10.ownsRow w8.heap.size 5 1 v1 m (LF bV (p.take m)) := by have h := ho1; rw [show ((FF, p.take m, (p.take m).length) : Ab).2.1.length = m from len_take hsz] at h; exact h
  obtain ⟨p7, c7, rfl⟩ := own_sliceN (own_zero ho1)
  have O1 := Lib.hid ho1
  clear ho1
  have D10 := Lib.hid (D8.out.below hb)
  have B10 := Lib.hid (B8.out.trans (hb.mono B8.out.size))
  clear hb
  go_wp2_with fail
  refine (readA D10.out (by simp [totA, List.length_take] <;> omega) GG).mono ?_
  intro e w11 h9
  obtain ⟨rfl, hb⟩ := h9.err 5 (by kernel_rfl) (by decide)
  have B11 := Lib.hid (B10.out.trans (hb.mono B10.out.size))
  have R1 := Lib.hid (gen_own_below O1.out hb)
  have hL := K0.out.below B11.out
  obtain ⟨p9, hs9, hl9⟩ := lat_upto hL hsz
  have BW := Lib.hid (B0.out.trans (B11.out.mono B0.out.size))
  have C1 := Lib.hid (fun w9 (h : Below w11.heap.size w11 w9) => lat_conv (LAt.below (LAt.own (fun x _ => bV_len x) (by rw [len_take hsz]; exact R1.out)) h))
  have C2 := Lib.hid (fun w9 (h : Below w11.heap.size w11 w9) => lat_conv (hl9.below h))
  have S9 := Lib.hid hs9
  clear hb hL hs9 hl9
  go_wp2_with fail
  refine wp_region_class (Below w11.heap.size w11) (by kernel_rfl) (by kernel_rfl) (Below.refl _ _).drew ?_
  repeat (go_big_quiet_step (first | (intro _; rfl)))
  refine wpQuiet_conv_at rfl 29 9 (.tmp 87) rfl _ _ rfl C1.out ?_
  simp only [Act.put, List.setIfInBounds_toArray, List.set_cons_succ, List.set_cons_zero]
  repeat (go_big_quiet_step (first | (intro _; rfl)))
  refine wpQuiet_upto_at rfl 29 (.tmp 89) (.tmp 90) rfl _ _ _ rfl rfl S9.out ?_
  simp only [Act.put, List.setIfInBounds_toArray, List.set_cons_succ, List.set_cons_zero]
  repeat (go_big_quiet_step (first | (intro _; rfl)))
  refine wpQuiet_conv_at rfl 29 9 (.tmp 91) rfl _ _ rfl C2.out ?_
  simp only [Act.put, List.setIfInBounds_toArray, List.set_cons_succ, List.set_cons_zero]
  repeat (go_big_quiet_step (first | (intro _; rfl)))
  refine wpQuiet_nil ?_
  intro wz hz
  have BZ := Lib.hid (BW.out.trans (hz.mono BW.out.size))
  clear hz
  go_wp2_with fail
  go_ret
  exact ⟨rfl, BZ.out⟩
set_option maxRecDepth 100000 in
set_option maxHeartbeats 2000000 in
theorem cuts_B (u0 : Value) (p : List UInt8) (m : Nat) (k : Int) (w : World) (h0 : BytsA w u0 p) (hm4 : m ≤ p.length) (hp : p.length ≤ 4096) (hk : (m : Int) ≤ k) : Calls Try.prog 9 #[u0, .int .i64 (m : Nat), .bool false, .int .i64 k] w (LawEnd w) := by
  have hl0 := h0.lat
  clear h0
  obtain ⟨pu, cu, rfl⟩ := lat_slice hl0
  have L0 := Lib.hid hl0
  clear hl0
  have HA := Lib.hid (alive_any w)
  have g1 : decide ((4096 : Int) < (p.length : Nat)) = false := decide_eq_false (by omega)
  have g2 : decide (((m : Nat) : Int) < 0) = false := decide_eq_false (by omega)
  have g3 : decide ((p.length : Int) < ((m : Nat) : Int)) = false := decide_eq_false (by omega)
  have hsz : m ≤ p.length := by omega
  have hlose : loseA k false (FF, p.take m, 0) = (FF, p.take m, (p.take m).length) := lose_cut (by unfold keptN; rw [len_take hm4]; omega) (by omega)
  have Hlose := Lib.hid hlose
  clear hlose
  have g4 : decide (((m : Nat) : Int) ≤ k) = true := decide_eq_true (by omega)
  have E1 := Lib.hid (show stepA (newH 1048576) [] (apdA [] FF p) (if readyE (newH 1048576) FF ≠ 0 then readyE (newH 1048576) FF else if ((newH 1048576) : Hd).room - (totA [] : Nat) < ((p : List UInt8).length : Nat) then 6 else 0) 0 = (0, ⟨1048576, 1, false, 0, 0, false⟩, [(FF, p, 0)]) from (step_ok (pre_ok (by kernel_rfl) (by show (p.length : Int) ≤ 1048576 - ((0 : Nat) : Int); omega)) (by decide)).trans (by kernel_rfl))
  have E2 := Lib.hid (show stepA ⟨1048576, 1, false, 0, 0, false⟩ [(FF, p, 0)] (apdA [(FF, p, 0)] GG p) (if readyE ⟨1048576, 1, false, 0, 0, false⟩ GG ≠ 0 then readyE ⟨1048576, 1, false, 0, 0, false⟩ GG else if (⟨1048576, 1, false, 0, 0, false⟩ : Hd).room - (totA [(FF, p, 0)] : Nat) < ((p : List UInt8).length : Nat) then 6 else 0) 0 = (0, ⟨1048576, 2, false, 0, 0, false⟩, [(FF, p, 0), (GG, p, 0)]) from (step_ok (pre_ok (by kernel_rfl) (by show (p.length : Int) ≤ 1048576 - (totA [(FF, p, 0)] : Nat); simp [totA]; omega)) (by decide)).trans (by kernel_rfl))
  have E4 := Lib.hid (show stepA ⟨1048576, 2, false, 0, 0, false⟩ [(FF, p, 0), (GG, p, 0)] (cutA [(FF, p, 0), (GG, p, 0)] FF ((m : Nat) : Int).toNat) (if findA ⟨1048576, 2, false, 0, 0, false⟩ [(FF, p, 0), (GG, p, 0)] FF ≠ 0 then findA ⟨1048576, 2, false, 0, 0, false⟩ [(FF, p, 0), (GG, p, 0)] FF else if ((m : Nat) : Int) < 0 then 1 else 0) 1 = (0, ⟨1048576, 3, false, 0, 0, false⟩, [(FF, p.take m, 0), (GG, p, 0)]) from (step_ok (by rw [if_neg (by simp [show findA ⟨1048576, 2, false, 0, 0, false⟩ [(FF, p, 0), (GG, p, 0)] FF = 0 from by kernel_rfl]), if_neg (by omega)]) (by decide)).trans (by
    have hcut : cutA [(FF, p, 0), (GG, p, 0)] FF ((m : Nat) : Int).toNat = [(FF, p.take m, 0), (GG, p, 0)] := by
      show [(FF, p.take (min m p.length), min 0 (min m p.length)), (GG, p, 0)] = _
      rw [Nat.min_eq_left hm4, Nat.zero_min]
    rw [hcut]; rfl))
  have E5 := Lib.hid (show stepA ⟨1048576, 3, false, 0, 0, false⟩ [(FF, p.take m, 0), (GG, p, 0)] (drpA [(FF, p.take m, 0), (GG, p, 0)] GG) (findA ⟨1048576, 3, false, 0, 0, false⟩ [(FF, p.take m, 0), (GG, p, 0)] GG) 1 = (0, ⟨1048576, 4, false, 0, 0, false⟩, [(FF, p.take m, 0)]) from (step_ok (by kernel_rfl) (by decide)).trans (by kernel_rfl))
  go_enter Try.func9, Try.ntmps9
  go_wp2_with fail
  refine HA.out.mono ?_
  rintro e w0 ⟨rfl, hb⟩
  have B0 := Lib.hid hb
  clear hb
  go_wp2_with fail
  have K0 := Lib.hid (L0.out.below B0.out)
  refine (newA 1048576 _).mono ?_
  rintro e w1 ⟨rfl, d, hb⟩
  have D1 := Lib.hid d
  have B1 := Lib.hid hb
  have M1 := Lib.hid hb.size
  clear d hb
  go_wp2_with fail
  refine (appendA D1.out M1.out ⟨by decide, by decide, by decide⟩ (by simp [totA] <;> omega) (by simp) FF _ p (byt_arg K0.out B1.out) (by omega)).mono ?_
  intro e w2 h9
  obtain ⟨rfl, d, hk⟩ := h9.to E1.out
  have D2 := Lib.hid d
  have B2 := Lib.hid (B1.out.trans (hk.below (fun k hk => hk.1) (B1.out.size)))
  have M2 := Lib.hid B2.out.size
  clear d hk
  go_wp2_with fail
  refine (appendA D2.out M2.out ⟨by decide, by decide, by decide⟩ (by simp [totA] <;> omega) (by simp) GG _ p (byt_arg K0.out B2.out) (by omega)).mono ?_
  intro e w3 h9
  obtain ⟨rfl, d, hk⟩ := h9.to E2.out
  have D3 := Lib.hid d
  have B3 := Lib.hid (B2.out.trans (hk.below (fun k hk => hk.1) (B2.out.size)))
  have M3 := Lib.hid B3.out.size
  clear d hk
  go_wp2_with fail
  refine (cutA_any D3.out M3.out ⟨by decide, by decide, by decide⟩ (by simp [totA] <;> omega) FF (m : Nat) (by omega)).mono ?_
  intro e w4 h9
  obtain ⟨rfl, d, hk⟩ := h9.to E4.out
  have D4 := Lib.hid d
  have B4 := Lib.hid (B3.out.trans (hk.below (fun k hk => hk.1) (B3.out.size)))
  have M4 := Lib.hid B4.out.size
  clear d hk
  go_wp2_with fail
  refine (removeA D4.out M4.out ⟨by decide, by decide, by decide⟩ (by simp [totA, List.length_take] <;> omega) GG (by decide)).mono ?_
  intro e w5 h9
  obtain ⟨rfl, d, hk⟩ := h9.to E5.out
  have D5 := Lib.hid d
  have B5 := Lib.hid (B4.out.trans (hk.below (fun k hk => hk.1) (B4.out.size)))
  have M5 := Lib.hid B5.out.size
  clear d hk
  go_wp2_with fail
  refine (offA D5.out (by simp [totA, List.length_take] <;> omega) k false).mono ?_
  rintro e w6 ⟨rfl, d, hk⟩
  have D6 := Lib.hid d
  have B6 := Lib.hid (B5.out.trans (hk.below (fun k hk => hk.1) B5.out.size))
  have M6 := Lib.hid M5.out
  clear d hk
  go_wp2_with fail
  have Dx := Lib.hid (D6.out.cast (h' := ⟨1048576, 4, true, 0, 0, false⟩) (A' := [(FF, p.take m, (p.take m).length)]) (rfl) (by rw [if_neg (by decide)]; simp only [List.map_cons, List.map_nil, Hlose.out]))
  clear D6
  have D6 := Dx
  clear Dx
  refine (onA D6.out).mono ?_
  rintro e w7 ⟨rfl, d, hk⟩
  have D7 := Lib.hid d
  have B7 := Lib.hid (B6.out.trans (hk.below (fun k hk => hk.1) B6.out.size))
  have M7 := Lib.hid M6.out
  clear d hk
  go_wp2_with fail
  have Dx := Lib.hid (D7.out.cast (h' := ⟨1048576, 4, false, 0, 0, false⟩) (A' := [(FF, p.take m, (p.take m).length)]) (rfl) (rfl))
  clear D7
  have D7 := Dx
  clear Dx
  refine (readA D7.out (by simp [totA, List.length_take] <;> omega) FF).mono ?_
  intro e w10 h9
  obtain ⟨v1, rfl, ho1, hb⟩ := h9.ok (y := (FF, p.take m, (p.take m).length)) (by kernel_rfl) (by kernel_rfl)
  replace ho1 : w10.ownsRow w7.heap.size 5 1 v1 m (LF bV (p.take m)) := by have h := ho1; rw [show ((FF, p.take m, (p.take m).length) : Ab).2.1.length = m from len_take hsz] at h; exact h
  obtain ⟨p7, c7, rfl⟩ := own_sliceN (own_zero ho1)
  have O1 := Lib.hid ho1
  clear ho1
  have D10 := Lib.hid (D7.out.below hb)
  have B10 := Lib.hid (B7.out.trans (hb.mono B7.out.size))
  clear hb
  go_wp2_with fail
  refine (readA D10.out (by simp [totA, List.length_take] <;> omega) GG).mono ?_
  intro e w11 h9
  obtain ⟨rfl, hb⟩ := h9.err 5 (by kernel_rfl) (by decide)
  have B11 := Lib.hid (B10.out.trans (hb.mono B10.out.size))
  have R1 := Lib.hid (gen_own_below O1.out hb)
  have hL := K0.out.below B11.out
  obtain ⟨p9, hs9, hl9⟩ := lat_upto hL hsz
  have BW := Lib.hid (B0.out.trans (B11.out.mono B0.out.size))
  have C1 := Lib.hid (fun w9 (h : Below w11.heap.size w11 w9) => lat_conv (LAt.below (LAt.own (fun x _ => bV_len x) (by rw [len_take hsz]; exact R1.out)) h))
  have C2 := Lib.hid (fun w9 (h : Below w11.heap.size w11 w9) => lat_conv (hl9.below h))
  have S9 := Lib.hid hs9
  clear hb hL hs9 hl9
  go_wp2_with fail
  refine wp_region_class (Below w11.heap.size w11) (by kernel_rfl) (by kernel_rfl) (Below.refl _ _).drew ?_
  repeat (go_big_quiet_step (first | (intro _; rfl)))
  refine wpQuiet_conv_at rfl 29 9 (.tmp 87) rfl _ _ rfl C1.out ?_
  simp only [Act.put, List.setIfInBounds_toArray, List.set_cons_succ, List.set_cons_zero]
  repeat (go_big_quiet_step (first | (intro _; rfl)))
  refine wpQuiet_upto_at rfl 29 (.tmp 89) (.tmp 90) rfl _ _ _ rfl rfl S9.out ?_
  simp only [Act.put, List.setIfInBounds_toArray, List.set_cons_succ, List.set_cons_zero]
  repeat (go_big_quiet_step (first | (intro _; rfl)))
  refine wpQuiet_conv_at rfl 29 9 (.tmp 91) rfl _ _ rfl C2.out ?_
  simp only [Act.put, List.setIfInBounds_toArray, List.set_cons_succ, List.set_cons_zero]
  repeat (go_big_quiet_step (first | (intro _; rfl)))
  refine wpQuiet_nil ?_
  intro wz hz
  have BZ := Lib.hid (BW.out.trans (hz.mono BW.out.size))
  clear hz
  go_wp2_with fail
  go_ret
  exact ⟨rfl, BZ.out⟩
set_option maxRecDepth 100000 in
set_option maxHeartbeats 2000000 in
theorem cuts_C (u0 : Value) (p : List UInt8) (m : Nat) (κ : Nat) (w : World) (h0 : BytsA w u0 p) (hm4 : m ≤ p.length) (hp : p.length ≤ 4096) (hk : 0 < κ ∧ κ < m) : Calls Try.prog 9 #[u0, .int .i64 (m : Nat), .bool false, .int .i64 (κ : Nat)] w (LawEnd w) := by
  have hl0 := h0.lat
  clear h0
  obtain ⟨pu, cu, rfl⟩ := lat_slice hl0
  have L0 := Lib.hid hl0
  clear hl0
  have HA := Lib.hid (alive_any w)
  have g1 : decide ((4096 : Int) < (p.length : Nat)) = false := decide_eq_false (by omega)
  have g2 : decide (((m : Nat) : Int) < 0) = false := decide_eq_false (by omega)
  have g3 : decide ((p.length : Int) < ((m : Nat) : Int)) = false := decide_eq_false (by omega)
  have hsz : κ ≤ p.length := by omega
  have hlose : loseA (κ : Int) false (FF, p.take m, 0) = (FF, p.take κ, (p.take κ).length) := lose_cut (by unfold keptN; rw [len_take hm4]; omega) (by omega)
  have Hlose := Lib.hid hlose
  clear hlose
  have g4 : decide (((m : Nat) : Int) ≤ (κ : Nat)) = false := decide_eq_false (by omega)
  have g5 : decide ((0 : Int) < (κ : Nat)) = true := decide_eq_true (by omega)
  have E1 := Lib.hid (show stepA (newH 1048576) [] (apdA [] FF p) (if readyE (newH 1048576) FF ≠ 0 then readyE (newH 1048576) FF else if ((newH 1048576) : Hd).room - (totA [] : Nat) < ((p : List UInt8).length : Nat) then 6 else 0) 0 = (0, ⟨1048576, 1, false, 0, 0, false⟩, [(FF, p, 0)]) from (step_ok (pre_ok (by kernel_rfl) (by show (p.length : Int) ≤ 1048576 - ((0 : Nat) : Int); omega)) (by decide)).trans (by kernel_rfl))
  have E2 := Lib.hid (show stepA ⟨1048576, 1, false, 0, 0, false⟩ [(FF, p, 0)] (apdA [(FF, p, 0)] GG p) (if readyE ⟨1048576, 1, false, 0, 0, false⟩ GG ≠ 0 then readyE ⟨1048576, 1, false, 0, 0, false⟩ GG else if (⟨1048576, 1, false, 0, 0, false⟩ : Hd).room - (totA [(FF, p, 0)] : Nat) < ((p : List UInt8).length : Nat) then 6 else 0) 0 = (0, ⟨1048576, 2, false, 0, 0, false⟩, [(FF, p, 0), (GG, p, 0)]) from (step_ok (pre_ok (by kernel_rfl) (by show (p.length : Int) ≤ 1048576 - (totA [(FF, p, 0)] : Nat); simp [totA]; omega)) (by decide)).trans (by kernel_rfl))
  have E4 := Lib.hid (show stepA ⟨1048576, 2, false, 0, 0, false⟩ [(FF, p, 0), (GG, p, 0)] (cutA [(FF, p, 0), (GG, p, 0)] FF ((m : Nat) : Int).toNat) (if findA ⟨1048576, 2, false, 0, 0, false⟩ [(FF, p, 0), (GG, p, 0)] FF ≠ 0 then findA ⟨1048576, 2, false, 0, 0, false⟩ [(FF, p, 0), (GG, p, 0)] FF else if ((m : Nat) : Int) < 0 then 1 else 0) 1 = (0, ⟨1048576, 3, false, 0, 0, false⟩, [(FF, p.take m, 0), (GG, p, 0)]) from (step_ok (by rw [if_neg (by simp [show findA ⟨1048576, 2, false, 0, 0, false⟩ [(FF, p, 0), (GG, p, 0)] FF = 0 from by kernel_rfl]), if_neg (by omega)]) (by decide)).trans (by
    have hcut : cutA [(FF, p, 0), (GG, p, 0)] FF ((m : Nat) : Int).toNat = [(FF, p.take m, 0), (GG, p, 0)] := by
      show [(FF, p.take (min m p.length), min 0 (min m p.length)), (GG, p, 0)] = _
      rw [Nat.min_eq_left hm4, Nat.zero_min]
    rw [hcut]; rfl))
  have E5 := Lib.hid (show stepA ⟨1048576, 3, false, 0, 0, false⟩ [(FF, p.take m, 0), (GG, p, 0)] (drpA [(FF, p.take m, 0), (GG, p, 0)] GG) (findA ⟨1048576, 3, false, 0, 0, false⟩ [(FF, p.take m, 0), (GG, p, 0)] GG) 1 = (0, ⟨1048576, 4, false, 0, 0, false⟩, [(FF, p.take m, 0)]) from (step_ok (by kernel_rfl) (by decide)).trans (by kernel_rfl))
  go_enter Try.func9, Try.ntmps9
  go_wp2_with fail
  refine HA.out.mono ?_
  rintro e w0 ⟨rfl, hb⟩
  have B0 := Lib.hid hb
  clear hb
  go_wp2_with fail
  have K0 := Lib.hid (L0.out.below B0.out)
  refine (newA 1048576 _).mono ?_
  rintro e w1 ⟨rfl, d, hb⟩
  have D1 := Lib.hid d
  have B1 := Lib.hid hb
  have M1 := Lib.hid hb.size
  clear d hb
  go_wp2_with fail
  refine (appendA D1.out M1.out ⟨by decide, by decide, by decide⟩ (by simp [totA] <;> omega) (by simp) FF _ p (byt_arg K0.out B1.out) (by omega)).mono ?_
  intro e w2 h9
  obtain ⟨rfl, d, hk⟩ := h9.to E1.out
  have D2 := Lib.hid d
  have B2 := Lib.hid (B1.out.trans (hk.below (fun k hk => hk.1) (B1.out.size)))
  have M2 := Lib.hid B2.out.size
  clear d hk
  go_wp2_with fail
  refine (appendA D2.out M2.out ⟨by decide, by decide, by decide⟩ (by simp [totA] <;> omega) (by simp) GG _ p (byt_arg K0.out B2.out) (by omega)).mono ?_
  intro e w3 h9
  obtain ⟨rfl, d, hk⟩ := h9.to E2.out
  have D3 := Lib.hid d
  have B3 := Lib.hid (B2.out.trans (hk.below (fun k hk => hk.1) (B2.out.size)))
  have M3 := Lib.hid B3.out.size
  clear d hk
  go_wp2_with fail
  refine (cutA_any D3.out M3.out ⟨by decide, by decide, by decide⟩ (by simp [totA] <;> omega) FF (m : Nat) (by omega)).mono ?_
  intro e w4 h9
  obtain ⟨rfl, d, hk⟩ := h9.to E4.out
  have D4 := Lib.hid d
  have B4 := Lib.hid (B3.out.trans (hk.below (fun k hk => hk.1) (B3.out.size)))
  have M4 := Lib.hid B4.out.size
  clear d hk
  go_wp2_with fail
  refine (removeA D4.out M4.out ⟨by decide, by decide, by decide⟩ (by simp [totA, List.length_take] <;> omega) GG (by decide)).mono ?_
  intro e w5 h9
  obtain ⟨rfl, d, hk⟩ := h9.to E5.out
  have D5 := Lib.hid d
  have B5 := Lib.hid (B4.out.trans (hk.below (fun k hk => hk.1) (B4.out.size)))
  have M5 := Lib.hid B5.out.size
  clear d hk
  go_wp2_with fail
  refine (offA D5.out (by simp [totA, List.length_take] <;> omega) (κ : Int) false).mono ?_
  rintro e w6 ⟨rfl, d, hk⟩
  have D6 := Lib.hid d
  have B6 := Lib.hid (B5.out.trans (hk.below (fun k hk => hk.1) B5.out.size))
  have M6 := Lib.hid M5.out
  clear d hk
  go_wp2_with fail
  have Dx := Lib.hid (D6.out.cast (h' := ⟨1048576, 4, true, 0, 0, false⟩) (A' := [(FF, p.take κ, (p.take κ).length)]) (rfl) (by rw [if_neg (by decide)]; simp only [List.map_cons, List.map_nil, Hlose.out]))
  clear D6
  have D6 := Dx
  clear Dx
  refine (onA D6.out).mono ?_
  rintro e w7 ⟨rfl, d, hk⟩
  have D7 := Lib.hid d
  have B7 := Lib.hid (B6.out.trans (hk.below (fun k hk => hk.1) B6.out.size))
  have M7 := Lib.hid M6.out
  clear d hk
  go_wp2_with fail
  have Dx := Lib.hid (D7.out.cast (h' := ⟨1048576, 4, false, 0, 0, false⟩) (A' := [(FF, p.take κ, (p.take κ).length)]) (rfl) (rfl))
  clear D7
  have D7 := Dx
  clear Dx
  refine (readA D7.out (by simp [totA, List.length_take] <;> omega) FF).mono ?_
  intro e w10 h9
  obtain ⟨v1, rfl, ho1, hb⟩ := h9.ok (y := (FF, p.take κ, (p.take κ).length)) (by kernel_rfl) (by kernel_rfl)
  replace ho1 : w10.ownsRow w7.heap.size 5 1 v1 κ (LF bV (p.take κ)) := by have h := ho1; rw [show ((FF, p.take κ, (p.take κ).length) : Ab).2.1.length = κ from len_take hsz] at h; exact h
  obtain ⟨p7, c7, rfl⟩ := own_sliceN (own_zero ho1)
  have O1 := Lib.hid ho1
  clear ho1
  have D10 := Lib.hid (D7.out.below hb)
  have B10 := Lib.hid (B7.out.trans (hb.mono B7.out.size))
  clear hb
  go_wp2_with fail
  refine (readA D10.out (by simp [totA, List.length_take] <;> omega) GG).mono ?_
  intro e w11 h9
  obtain ⟨rfl, hb⟩ := h9.err 5 (by kernel_rfl) (by decide)
  have B11 := Lib.hid (B10.out.trans (hb.mono B10.out.size))
  have R1 := Lib.hid (gen_own_below O1.out hb)
  have hL := K0.out.below B11.out
  obtain ⟨p9, hs9, hl9⟩ := lat_upto hL hsz
  have BW := Lib.hid (B0.out.trans (B11.out.mono B0.out.size))
  have C1 := Lib.hid (fun w9 (h : Below w11.heap.size w11 w9) => lat_conv (LAt.below (LAt.own (fun x _ => bV_len x) (by rw [len_take hsz]; exact R1.out)) h))
  have C2 := Lib.hid (fun w9 (h : Below w11.heap.size w11 w9) => lat_conv (hl9.below h))
  have S9 := Lib.hid hs9
  clear hb hL hs9 hl9
  go_wp2_with fail
  refine wp_region_class (Below w11.heap.size w11) (by kernel_rfl) (by kernel_rfl) (Below.refl _ _).drew ?_
  repeat (go_big_quiet_step (first | (intro _; rfl)))
  refine wpQuiet_conv_at rfl 29 9 (.tmp 87) rfl _ _ rfl C1.out ?_
  simp only [Act.put, List.setIfInBounds_toArray, List.set_cons_succ, List.set_cons_zero]
  repeat (go_big_quiet_step (first | (intro _; rfl)))
  refine wpQuiet_upto_at rfl 29 (.tmp 89) (.tmp 90) rfl _ _ _ rfl rfl S9.out ?_
  simp only [Act.put, List.setIfInBounds_toArray, List.set_cons_succ, List.set_cons_zero]
  repeat (go_big_quiet_step (first | (intro _; rfl)))
  refine wpQuiet_conv_at rfl 29 9 (.tmp 91) rfl _ _ rfl C2.out ?_
  simp only [Act.put, List.setIfInBounds_toArray, List.set_cons_succ, List.set_cons_zero]
  repeat (go_big_quiet_step (first | (intro _; rfl)))
  refine wpQuiet_nil ?_
  intro wz hz
  have BZ := Lib.hid (BW.out.trans (hz.mono BW.out.size))
  clear hz
  go_wp2_with fail
  go_ret
  exact ⟨rfl, BZ.out⟩
set_option maxRecDepth 100000 in
set_option maxHeartbeats 2000000 in
theorem cuts_D (u0 : Value) (p : List UInt8) (m : Nat) (k : Int) (w : World) (h0 : BytsA w u0 p) (hm4 : m ≤ p.length) (hp : p.length ≤ 4096) (hk : k ≤ 0 ∧ k < (m : Nat)) : Calls Try.prog 9 #[u0, .int .i64 (m : Nat), .bool false, .int .i64 k] w (LawEnd w) := by
  have hl0 := h0.lat
  clear h0
  obtain ⟨pu, cu, rfl⟩ := lat_slice hl0
  have L0 := Lib.hid hl0
  clear hl0
  have HA := Lib.hid (alive_any w)
  have g1 : decide ((4096 : Int) < (p.length : Nat)) = false := decide_eq_false (by omega)
  have g2 : decide (((m : Nat) : Int) < 0) = false := decide_eq_false (by omega)
  have g3 : decide ((p.length : Int) < ((m : Nat) : Int)) = false := decide_eq_false (by omega)
  have hsz : 0 ≤ p.length := by omega
  have hlose : loseA k false (FF, p.take m, 0) = (FF, p.take 0, (p.take 0).length) := lose_cut (by unfold keptN; rw [len_take hm4]; omega) (by omega)
  have Hlose := Lib.hid hlose
  clear hlose
  have g4 : decide (((m : Nat) : Int) ≤ k) = false := decide_eq_false (by omega)
  have g5 : decide (0 < k) = false := decide_eq_false (by omega)
  have E1 := Lib.hid (show stepA (newH 1048576) [] (apdA [] FF p) (if readyE (newH 1048576) FF ≠ 0 then readyE (newH 1048576) FF else if ((newH 1048576) : Hd).room - (totA [] : Nat) < ((p : List UInt8).length : Nat) then 6 else 0) 0 = (0, ⟨1048576, 1, false, 0, 0, false⟩, [(FF, p, 0)]) from (step_ok (pre_ok (by kernel_rfl) (by show (p.length : Int) ≤ 1048576 - ((0 : Nat) : Int); omega)) (by decide)).trans (by kernel_rfl))
  have E2 := Lib.hid (show stepA ⟨1048576, 1, false, 0, 0, false⟩ [(FF, p, 0)] (apdA [(FF, p, 0)] GG p) (if readyE ⟨1048576, 1, false, 0, 0, false⟩ GG ≠ 0 then readyE ⟨1048576, 1, false, 0, 0, false⟩ GG else if (⟨1048576, 1, false, 0, 0, false⟩ : Hd).room - (totA [(FF, p, 0)] : Nat) < ((p : List UInt8).length : Nat) then 6 else 0) 0 = (0, ⟨1048576, 2, false, 0, 0, false⟩, [(FF, p, 0), (GG, p, 0)]) from (step_ok (pre_ok (by kernel_rfl) (by show (p.length : Int) ≤ 1048576 - (totA [(FF, p, 0)] : Nat); simp [totA]; omega)) (by decide)).trans (by kernel_rfl))
  have E4 := Lib.hid (show stepA ⟨1048576, 2, false, 0, 0, false⟩ [(FF, p, 0), (GG, p, 0)] (cutA [(FF, p, 0), (GG, p, 0)] FF ((m : Nat) : Int).toNat) (if findA ⟨1048576, 2, false, 0, 0, false⟩ [(FF, p, 0), (GG, p, 0)] FF ≠ 0 then findA ⟨1048576, 2, false, 0, 0, false⟩ [(FF, p, 0), (GG, p, 0)] FF else if ((m : Nat) : Int) < 0 then 1 else 0) 1 = (0, ⟨1048576, 3, false, 0, 0, false⟩, [(FF, p.take m, 0), (GG, p, 0)]) from (step_ok (by rw [if_neg (by simp [show findA ⟨1048576, 2, false, 0, 0, false⟩ [(FF, p, 0), (GG, p, 0)] FF = 0 from by kernel_rfl]), if_neg (by omega)]) (by decide)).trans (by
    have hcut : cutA [(FF, p, 0), (GG, p, 0)] FF ((m : Nat) : Int).toNat = [(FF, p.take m, 0), (GG, p, 0)] := by
      show [(FF, p.take (min m p.length), min 0 (min m p.length)), (GG, p, 0)] = _
      rw [Nat.min_eq_left hm4, Nat.zero_min]
    rw [hcut]; rfl))
  have E5 := Lib.hid (show stepA ⟨1048576, 3, false, 0, 0, false⟩ [(FF, p.take m, 0), (GG, p, 0)] (drpA [(FF, p.take m, 0), (GG, p, 0)] GG) (findA ⟨1048576, 3, false, 0, 0, false⟩ [(FF, p.take m, 0), (GG, p, 0)] GG) 1 = (0, ⟨1048576, 4, false, 0, 0, false⟩, [(FF, p.take m, 0)]) from (step_ok (by kernel_rfl) (by decide)).trans (by kernel_rfl))
  go_enter Try.func9, Try.ntmps9
  go_wp2_with fail
  refine HA.out.mono ?_
  rintro e w0 ⟨rfl, hb⟩
  have B0 := Lib.hid hb
  clear hb
  go_wp2_with fail
  have K0 := Lib.hid (L0.out.below B0.out)
  refine (newA 1048576 _).mono ?_
  rintro e w1 ⟨rfl, d, hb⟩
  have D1 := Lib.hid d
  have B1 := Lib.hid hb
  have M1 := Lib.hid hb.size
  clear d hb
  go_wp2_with fail
  refine (appendA D1.out M1.out ⟨by decide, by decide, by decide⟩ (by simp [totA] <;> omega) (by simp) FF _ p (byt_arg K0.out B1.out) (by omega)).mono ?_
  intro e w2 h9
  obtain ⟨rfl, d, hk⟩ := h9.to E1.out
  have D2 := Lib.hid d
  have B2 := Lib.hid (B1.out.trans (hk.below (fun k hk => hk.1) (B1.out.size)))
  have M2 := Lib.hid B2.out.size
  clear d hk
  go_wp2_with fail
  refine (appendA D2.out M2.out ⟨by decide, by decide, by decide⟩ (by simp [totA] <;> omega) (by simp) GG _ p (byt_arg K0.out B2.out) (by omega)).mono ?_
  intro e w3 h9
  obtain ⟨rfl, d, hk⟩ := h9.to E2.out
  have D3 := Lib.hid d
  have B3 := Lib.hid (B2.out.trans (hk.below (fun k hk => hk.1) (B2.out.size)))
  have M3 := Lib.hid B3.out.size
  clear d hk
  go_wp2_with fail
  refine (cutA_any D3.out M3.out ⟨by decide, by decide, by decide⟩ (by simp [totA] <;> omega) FF (m : Nat) (by omega)).mono ?_
  intro e w4 h9
  obtain ⟨rfl, d, hk⟩ := h9.to E4.out
  have D4 := Lib.hid d
  have B4 := Lib.hid (B3.out.trans (hk.below (fun k hk => hk.1) (B3.out.size)))
  have M4 := Lib.hid B4.out.size
  clear d hk
  go_wp2_with fail
  refine (removeA D4.out M4.out ⟨by decide, by decide, by decide⟩ (by simp [totA, List.length_take] <;> omega) GG (by decide)).mono ?_
  intro e w5 h9
  obtain ⟨rfl, d, hk⟩ := h9.to E5.out
  have D5 := Lib.hid d
  have B5 := Lib.hid (B4.out.trans (hk.below (fun k hk => hk.1) (B4.out.size)))
  have M5 := Lib.hid B5.out.size
  clear d hk
  go_wp2_with fail
  refine (offA D5.out (by simp [totA, List.length_take] <;> omega) k false).mono ?_
  rintro e w6 ⟨rfl, d, hk⟩
  have D6 := Lib.hid d
  have B6 := Lib.hid (B5.out.trans (hk.below (fun k hk => hk.1) B5.out.size))
  have M6 := Lib.hid M5.out
  clear d hk
  go_wp2_with fail
  have Dx := Lib.hid (D6.out.cast (h' := ⟨1048576, 4, true, 0, 0, false⟩) (A' := [(FF, p.take 0, (p.take 0).length)]) (rfl) (by rw [if_neg (by decide)]; simp only [List.map_cons, List.map_nil, Hlose.out]))
  clear D6
  have D6 := Dx
  clear Dx
  refine (onA D6.out).mono ?_
  rintro e w7 ⟨rfl, d, hk⟩
  have D7 := Lib.hid d
  have B7 := Lib.hid (B6.out.trans (hk.below (fun k hk => hk.1) B6.out.size))
  have M7 := Lib.hid M6.out
  clear d hk
  go_wp2_with fail
  have Dx := Lib.hid (D7.out.cast (h' := ⟨1048576, 4, false, 0, 0, false⟩) (A' := [(FF, p.take 0, (p.take 0).length)]) (rfl) (rfl))
  clear D7
  have D7 := Dx
  clear Dx
  refine (readA D7.out (by simp [totA, List.length_take] <;> omega) FF).mono ?_
  intro e w10 h9
  obtain ⟨v1, rfl, ho1, hb⟩ := h9.ok (y := (FF, p.take 0, (p.take 0).length)) (by kernel_rfl) (by kernel_rfl)
  replace ho1 : w10.ownsRow w7.heap.size 5 1 v1 0 (LF bV (p.take 0)) := by have h := ho1; rw [show ((FF, p.take 0, (p.take 0).length) : Ab).2.1.length = 0 from len_take hsz] at h; exact h
  obtain ⟨p7, c7, rfl⟩ := own_sliceN (own_zero ho1)
  have O1 := Lib.hid ho1
  clear ho1
  have D10 := Lib.hid (D7.out.below hb)
  have B10 := Lib.hid (B7.out.trans (hb.mono B7.out.size))
  clear hb
  go_wp2_with fail
  refine (readA D10.out (by simp [totA, List.length_take] <;> omega) GG).mono ?_
  intro e w11 h9
  obtain ⟨rfl, hb⟩ := h9.err 5 (by kernel_rfl) (by decide)
  have B11 := Lib.hid (B10.out.trans (hb.mono B10.out.size))
  have R1 := Lib.hid (gen_own_below O1.out hb)
  have hL := K0.out.below B11.out
  obtain ⟨p9, hs9, hl9⟩ := lat_upto hL hsz
  have BW := Lib.hid (B0.out.trans (B11.out.mono B0.out.size))
  have C1 := Lib.hid (fun w9 (h : Below w11.heap.size w11 w9) => lat_conv (LAt.below (LAt.own (fun x _ => bV_len x) (by rw [len_take hsz]; exact R1.out)) h))
  have C2 := Lib.hid (fun w9 (h : Below w11.heap.size w11 w9) => lat_conv (hl9.below h))
  have S9 := Lib.hid hs9
  clear hb hL hs9 hl9
  go_wp2_with fail
  refine wp_region_class (Below w11.heap.size w11) (by kernel_rfl) (by kernel_rfl) (Below.refl _ _).drew ?_
  repeat (go_big_quiet_step (first | (intro _; rfl)))
  refine wpQuiet_conv_at rfl 29 9 (.tmp 87) rfl _ _ rfl (fun w9 _ => conv_zero _ _ w9) ?_
  simp only [Act.put, List.setIfInBounds_toArray, List.set_cons_succ, List.set_cons_zero]
  repeat (go_big_quiet_step (first | (intro _; rfl)))
  refine wpQuiet_conv_at rfl 29 9 (.tmp 91) rfl _ _ rfl (fun w9 _ => conv_zero _ _ w9) ?_
  simp only [Act.put, List.setIfInBounds_toArray, List.set_cons_succ, List.set_cons_zero]
  repeat (go_big_quiet_step (first | (intro _; rfl)))
  refine wpQuiet_nil ?_
  intro wz hz
  have BZ := Lib.hid (BW.out.trans (hz.mono BW.out.size))
  clear hz
  go_wp2_with fail
  go_ret
  exact ⟨rfl, BZ.out⟩
theorem cuts_walk (u0 : Value) (p : List UInt8) (n : Int) (sy : Bool) (k : Int) (w : World) (h0 : BytsA w u0 p) : Calls Try.prog 9 #[u0, .int .i64 n, .bool sy, .int .i64 k] w (LawEnd w) := by
  by_cases hg : 4096 < p.length ∨ n < 0 ∨ (p.length : Int) < n
  · exact cuts_great u0 p n sy k w h0 hg
  · have hp : p.length ≤ 4096 := by omega
    obtain ⟨m, rfl⟩ : ∃ m : Nat, n = m := ⟨n.toNat, by omega⟩
    have hm : m ≤ p.length := by omega
    cases sy with
    | true => exact cuts_A u0 p m k w h0 hm hp
    | false =>
      by_cases h1 : (m : Int) ≤ k
      · exact cuts_B u0 p m k w h0 hm hp h1
      · by_cases h2 : 0 < k
        · obtain ⟨κ, rfl⟩ : ∃ κ : Nat, k = κ := ⟨k.toNat, by omega⟩
          exact cuts_C u0 p m κ w h0 hm hp (by omega)
        · exact cuts_D u0 p m k w h0 hm hp (by omega)
end Go.Proofs.Ytfmcemedaehcoaa
