/- Walks: the statement DiskRenames. -/
import Derived.Test.YtfmcemedaehcoaaWo
namespace Go.Proofs.Ytfmcemedaehcoaa
set_option linter.unusedVariables false
set_option linter.unusedSimpArgs false
open Go.ChangeShapes Go.WideShapes Go.ChangeAt Go.RowKit Go.ChangeMaps

def AA : ByteArray := ⟨#[97]⟩
def BB : ByteArray := ⟨#[98]⟩
theorem lat_slice {w : World} {u : Value} {c : List UInt8} (h : LAt 1 bV w u c) : ∃ pu cu, u = .slice pu c.length cu := by
  rcases h.2 with ⟨pp, cap, e, rfl⟩ | ⟨bb, off, cap, e, _⟩
  · exact ⟨_, _, e⟩
  · exact ⟨_, _, e⟩
theorem byt_arg {W w : World} {n : Nat} {u : Value} {c : List UInt8} (h : LAt 1 bV W u c) (hB : Below W.heap.size W w) : Byt (In W.heap.size n) w u c := ⟨fun w1 hk => h.below (hB.trans (hk.below (fun _ h => h.1) hB.size))⟩
theorem DA.cast {B n b : Nat} {h h' : Hd} {A A' : List Ab} {w : World} (d : DA B n b h A w) (e1 : h = h') (e2 : A = A') : DA B n b h' A' w := by
  subst e1 e2; exact d
theorem ReadA.err {w w' : World} {h : Hd} {A : List Ab} {x : ByteArray} {e : Ending} (r : ReadA w h A x e w') (a : Int) (hf : findA h A x = a) (ha : a ≠ 0) : e = .returned (.tuple #[.slice none 0 0, .int .i64 a]) ∧ Below w.heap.size w w' := by
  subst hf
  rcases r.r with ⟨_, h1⟩ | ⟨h1, _⟩
  · exact ⟨h1, r.b⟩
  · exact absurd h1 ha
theorem lose_safe (k : Int) (t : Bool) (x : ByteArray) (d : List UInt8) : loseA k t (x, d, d.length) = (x, d, d.length) := by
  have h0 : keptN k d d.length = 0 := by unfold keptN; omega
  have h1 : loseD k t d d.length = d := by
    unfold loseD
    rw [h0, if_neg (by simp)]
    simp
  unfold loseA
  simp only [h1]
theorem pre_ok {r : Int} {a : Int} {b : Nat} (h : r = 0) (hl : (b : Int) ≤ a) : (if r ≠ 0 then r else if a < (b : Nat) then 6 else 0) = 0 := by
  rw [if_neg (by simp [h]), if_neg (by omega)]
theorem step_ok {h : Hd} {A A1 : List Ab} {pre stays : Int} (hp : pre = 0) (hl : h.left ≠ 1) : stepA h A A1 pre stays = (0, ⟨h.room, h.acts + 1, false, max (h.left - 1) 0, h.keep, h.torn⟩, A1) := by
  unfold stepA
  rw [if_neg (by simp [hp]), if_pos hl]
theorem step_off {h : Hd} {A A1 : List Ab} {pre stays : Int} (hp : pre = 0) (hl : h.left = 1) : stepA h A A1 pre stays = (7, ⟨h.room, h.acts + 1, true, 0, 0, false⟩, (if doesB stays h.keep = true then A1 else A).map (loseA h.keep h.torn)) := by
  unfold stepA
  rw [if_neg (by simp [hp]), if_neg (by simp [hl])]
theorem own_zero {w : World} {base n : Nat} {v : Value} {xs : List Value} (h : w.ownsRow base 5 1 v n xs) : w.ownsRow 0 5 1 v n xs := ⟨h.1, by
  rcases h.2 with h | ⟨g, cap, cur, h1, h2, h3⟩
  · exact .inl h
  · exact .inr ⟨g, cap, cur, h1, Nat.zero_le _, h3⟩⟩
set_option maxRecDepth 100000 in
theorem renames_great (u0 u1 : Value) (p q : List UInt8) (n k : Int) (t : Bool) (w : World) (h0 : BytsA w u0 p) (h1 : BytsA w u1 q) (hn : -9223372036854775808 ≤ n ∧ n ≤ 9223372036854775807) (hg : 4096 < p.length ∨ 4096 < q.length) : Calls Try.prog 5 #[u0, u1, .int .i64 n, .int .i64 k, .bool t] w (LawEnd w) := by
  have hl0 := h0.lat
  have hl1 := h1.lat
  clear h0 h1
  obtain ⟨pu, cu, rfl⟩ := lat_slice hl0
  obtain ⟨qu, du, rfl⟩ := lat_slice hl1
  have L0 := Lib.hid hl0
  have L1 := Lib.hid hl1
  clear hl0 hl1
  have HA := Lib.hid (alive_any w)
  by_cases hp : 4096 < p.length
  · have g1 : decide ((4096 : Int) < (p.length : Nat)) = true := decide_eq_true (by omega)
    go_enter Try.func5, Try.ntmps5
    go_wp2_with fail
    refine HA.out.mono ?_
    rintro e w0 ⟨rfl, hb⟩
    have B0 := Lib.hid hb
    clear hb
    go_wp2_with fail
    go_ret
    exact ⟨rfl, B0.out⟩
  · have g1 : decide ((4096 : Int) < (p.length : Nat)) = false := decide_eq_false (by omega)
    have g2 : decide ((4096 : Int) < (q.length : Nat)) = true := decide_eq_true (by omega)
    go_enter Try.func5, Try.ntmps5
    go_wp2_with fail
    refine HA.out.mono ?_
    rintro e w0 ⟨rfl, hb⟩
    have B0 := Lib.hid hb
    clear hb
    go_wp2_with fail
    go_ret
    exact ⟨rfl, B0.out⟩
set_option maxRecDepth 100000 in
set_option maxHeartbeats 2000000 in
theorem renames_one (u0 u1 : Value) (p q : List UInt8) (n k : Int) (t : Bool) (w : World) (h0 : BytsA w u0 p) (h1 : BytsA w u1 q) (hn : -9223372036854775808 ≤ n ∧ n ≤ 9223372036854775807) (hp : p.length ≤ 4096) (hq : q.length ≤ 4096) (hl : max n 0 ≠ 1) : Calls Try.prog 5 #[u0, u1, .int .i64 n, .int .i64 k, .bool t] w (LawEnd w) := by
  have hl0 := h0.lat
  have hl1 := h1.lat
  clear h0 h1
  obtain ⟨pu, cu, rfl⟩ := lat_slice hl0
  obtain ⟨qu, du, rfl⟩ := lat_slice hl1
  have L0 := Lib.hid hl0
  have L1 := Lib.hid hl1
  clear hl0 hl1
  have HA := Lib.hid (alive_any w)
  have g1 : decide ((4096 : Int) < (p.length : Nat)) = false := decide_eq_false (by omega)
  have g2 : decide ((4096 : Int) < (q.length : Nat)) = false := decide_eq_false (by omega)
  have hroom : ((newH 1048576).room : Int) = 1048576 := rfl
  have E1 := Lib.hid (show stepA (newH 1048576) [] (apdA [] AA p) (if readyE (newH 1048576) AA ≠ 0 then readyE (newH 1048576) AA else if ((newH 1048576) : Hd).room - (totA [] : Nat) < ((p : List UInt8).length : Nat) then 6 else 0) 0 = (0, ⟨1048576, 1, false, 0, 0, false⟩, [(AA, p, 0)]) from (step_ok (pre_ok (by kernel_rfl) (by show (p.length : Int) ≤ 1048576 - ((0 : Nat) : Int); omega)) (by decide)).trans (by kernel_rfl))
  have E2 := Lib.hid (show stepA ⟨1048576, 1, false, 0, 0, false⟩ [(AA, p, 0)] (synA [(AA, p, 0)] AA) (findA ⟨1048576, 1, false, 0, 0, false⟩ [(AA, p, 0)] AA) 2 = (0, ⟨1048576, 2, false, 0, 0, false⟩, [(AA, p, p.length)]) from (step_ok (by kernel_rfl) (by decide)).trans (by kernel_rfl))
  have E3 := Lib.hid (show stepA ⟨1048576, 2, false, 0, 0, false⟩ [(AA, p, p.length)] (apdA [(AA, p, p.length)] BB q) (if readyE ⟨1048576, 2, false, 0, 0, false⟩ BB ≠ 0 then readyE ⟨1048576, 2, false, 0, 0, false⟩ BB else if (⟨1048576, 2, false, 0, 0, false⟩ : Hd).room - (totA [(AA, p, p.length)] : Nat) < ((q : List UInt8).length : Nat) then 6 else 0) 0 = (0, ⟨1048576, 3, false, 0, 0, false⟩, [(AA, p, p.length), (BB, q, 0)]) from (step_ok (pre_ok (by kernel_rfl) (by show (q.length : Int) ≤ 1048576 - (totA [(AA, p, p.length)] : Nat); simp [totA]; omega)) (by decide)).trans (by kernel_rfl))
  have E4 := Lib.hid (show stepA ⟨1048576, 3, false, 0, 0, false⟩ [(AA, p, p.length), (BB, q, 0)] (synA [(AA, p, p.length), (BB, q, 0)] BB) (findA ⟨1048576, 3, false, 0, 0, false⟩ [(AA, p, p.length), (BB, q, 0)] BB) 2 = (0, ⟨1048576, 4, false, 0, 0, false⟩, [(AA, p, p.length), (BB, q, q.length)]) from (step_ok (by kernel_rfl) (by decide)).trans (by kernel_rfl))
  have E5 := Lib.hid (show stepA ⟨1048576, 4, false, max n 0, k, t⟩ [(AA, p, p.length), (BB, q, q.length)] (renA [(AA, p, p.length), (BB, q, q.length)] AA BB) (if findA ⟨1048576, 4, false, max n 0, k, t⟩ [(AA, p, p.length), (BB, q, q.length)] AA ≠ 0 then findA ⟨1048576, 4, false, max n 0, k, t⟩ [(AA, p, p.length), (BB, q, q.length)] AA else if goodN BB = true then 0 else 1) 1 = (0, ⟨1048576, 5, false, max (max n 0 - 1) 0, k, t⟩, [(BB, p, p.length)]) from (step_ok (by kernel_rfl) hl).trans (by kernel_rfl))
  go_enter Try.func5, Try.ntmps5
  go_wp2_with fail
  refine HA.out.mono ?_
  rintro e w0 ⟨rfl, hb⟩
  have B0 := Lib.hid hb
  clear hb
  go_wp2_with fail
  have K0 := Lib.hid (L0.out.below B0.out)
  have K1 := Lib.hid (L1.out.below B0.out)
  refine (newA 1048576 _).mono ?_
  rintro e w1 ⟨rfl, d, hb⟩
  have D1 := Lib.hid d
  have B1 := Lib.hid hb
  have M1 := Lib.hid hb.size
  clear d hb
  go_wp2_with fail
  refine (appendA D1.out M1.out ⟨by decide, by decide, by decide⟩ (by simp [totA] <;> omega) (by simp) AA _ p (byt_arg K0.out B1.out) (by omega)).mono ?_
  intro e w2 h9
  obtain ⟨rfl, d, hk⟩ := h9.to E1.out
  have D2 := Lib.hid d
  have B2 := Lib.hid (B1.out.trans (hk.below (fun k hk => hk.1) (B1.out.size)))
  have M2 := Lib.hid B2.out.size
  clear d hk
  go_wp2_with fail
  refine (syncA D2.out M2.out ⟨by decide, by decide, by decide⟩ (by simp [totA] <;> omega) AA).mono ?_
  intro e w3 h9
  obtain ⟨rfl, d, hk⟩ := h9.to E2.out
  have D3 := Lib.hid d
  have B3 := Lib.hid (B2.out.trans (hk.below (fun k hk => hk.1) (B2.out.size)))
  have M3 := Lib.hid B3.out.size
  clear d hk
  go_wp2_with fail
  refine (appendA D3.out M3.out ⟨by decide, by decide, by decide⟩ (by simp [totA] <;> omega) (by simp) BB _ q (byt_arg K1.out B3.out) (by omega)).mono ?_
  intro e w4 h9
  obtain ⟨rfl, d, hk⟩ := h9.to E3.out
  have D4 := Lib.hid d
  have B4 := Lib.hid (B3.out.trans (hk.below (fun k hk => hk.1) (B3.out.size)))
  have M4 := Lib.hid B4.out.size
  clear d hk
  go_wp2_with fail
  refine (syncA D4.out M4.out ⟨by decide, by decide, by decide⟩ (by simp [totA] <;> omega) BB).mono ?_
  intro e w5 h9
  obtain ⟨rfl, d, hk⟩ := h9.to E4.out
  have D5 := Lib.hid d
  have B5 := Lib.hid (B4.out.trans (hk.below (fun k hk => hk.1) (B4.out.size)))
  have M5 := Lib.hid B5.out.size
  clear d hk
  go_wp2_with fail
  refine (armA D5.out n k t).mono ?_
  rintro e w6 ⟨rfl, d, hk⟩
  have D6 := Lib.hid d
  have B6 := Lib.hid (B5.out.trans (hk.below (fun k hk => hk.1) B5.out.size))
  have M6 := Lib.hid M5.out
  clear d hk
  go_wp2_with fail
  have Dx := Lib.hid (D6.out.cast (h' := ⟨1048576, 4, false, max n 0, k, t⟩) (A' := [(AA, p, p.length), (BB, q, q.length)]) (rfl) (rfl))
  clear D6
  have D6 := Dx
  clear Dx
  refine (renameA D6.out M6.out ⟨by show (0 : Int) ≤ 1048576 ∧ (1048576 : Int) ≤ 1048576; decide, ⟨by show 0 ≤ max n 0; omega, by show max n 0 ≤ 9223372036854775807; omega⟩, by show (0 : Int) ≤ 4 ∧ (4 : Int) ≤ 1099511627776; decide⟩ (by simp [totA] <;> omega) (by simp) AA BB).mono ?_
  intro e w7 h9
  obtain ⟨rfl, d, hk⟩ := h9.to E5.out
  have D7 := Lib.hid d
  have B7 := Lib.hid (B6.out.trans (hk.below (fun k hk => hk.1) (B6.out.size)))
  have M7 := Lib.hid B7.out.size
  clear d hk
  go_wp2_with fail
  refine (offA D7.out (by simp [totA] <;> omega) k t).mono ?_
  rintro e w8 ⟨rfl, d, hk⟩
  have D8 := Lib.hid d
  have B8 := Lib.hid (B7.out.trans (hk.below (fun k hk => hk.1) B7.out.size))
  have M8 := Lib.hid M7.out
  clear d hk
  go_wp2_with fail
  have Dx := Lib.hid (D8.out.cast (h' := ⟨1048576, 5, true, 0, 0, false⟩) (A' := [(BB, p, p.length)]) (rfl) (by rw [if_neg (by decide)]; simp only [List.map_cons, List.map_nil, lose_safe]))
  clear D8
  have D8 := Dx
  clear Dx
  refine (onA D8.out).mono ?_
  rintro e w9 ⟨rfl, d, hk⟩
  have D9 := Lib.hid d
  have B9 := Lib.hid (B8.out.trans (hk.below (fun k hk => hk.1) B8.out.size))
  have M9 := Lib.hid M8.out
  clear d hk
  go_wp2_with fail
  have Dx := Lib.hid (D9.out.cast (h' := ⟨1048576, 5, false, 0, 0, false⟩) (A' := [(BB, p, p.length)]) (rfl) (rfl))
  clear D9
  have D9 := Dx
  clear Dx
  refine (readA D9.out (by simp [totA] <;> omega) AA).mono ?_
  intro e w10 h9
  obtain ⟨rfl, hb⟩ := h9.err 5 (by kernel_rfl) (by decide)
  have D10 := Lib.hid (D9.out.below hb)
  have B10 := Lib.hid (B9.out.trans (hb.mono B9.out.size))
  clear hb
  go_wp2_with fail
  refine (readA D10.out (by simp [totA] <;> omega) BB).mono ?_
  intro e w11 h9
  obtain ⟨v2, rfl, ho2, hb⟩ := h9.ok (y := (BB, p, p.length)) (by kernel_rfl) (by kernel_rfl)
  obtain ⟨p8, n8, c8, rfl⟩ := own_slice (own_zero ho2)
  have B11 := Lib.hid (B10.out.trans (hb.mono B10.out.size))
  have c2 := own_conv ho2
  have c3 := lat_conv (K0.out.below B11.out)
  have c4 := lat_conv (K1.out.below B11.out)
  have BW := Lib.hid (B0.out.trans (B11.out.mono B0.out.size))
  clear hb ho2
  go_wp2_with fail
  go_ret
  exact ⟨rfl, BW.out⟩
set_option maxRecDepth 100000 in
set_option maxHeartbeats 2000000 in
theorem renames_two (u0 u1 : Value) (p q : List UInt8) (n k : Int) (t : Bool) (w : World) (h0 : BytsA w u0 p) (h1 : BytsA w u1 q) (hn : -9223372036854775808 ≤ n ∧ n ≤ 9223372036854775807) (hp : p.length ≤ 4096) (hq : q.length ≤ 4096) (hl : max n 0 = 1) (hk : doesB 1 k = true) (hk0 : 0 < k) : Calls Try.prog 5 #[u0, u1, .int .i64 n, .int .i64 k, .bool t] w (LawEnd w) := by
  have hl0 := h0.lat
  have hl1 := h1.lat
  clear h0 h1
  obtain ⟨pu, cu, rfl⟩ := lat_slice hl0
  obtain ⟨qu, du, rfl⟩ := lat_slice hl1
  have L0 := Lib.hid hl0
  have L1 := Lib.hid hl1
  clear hl0 hl1
  have HA := Lib.hid (alive_any w)
  have g1 : decide ((4096 : Int) < (p.length : Nat)) = false := decide_eq_false (by omega)
  have g2 : decide ((4096 : Int) < (q.length : Nat)) = false := decide_eq_false (by omega)
  have hroom : ((newH 1048576).room : Int) = 1048576 := rfl
  have E1 := Lib.hid (show stepA (newH 1048576) [] (apdA [] AA p) (if readyE (newH 1048576) AA ≠ 0 then readyE (newH 1048576) AA else if ((newH 1048576) : Hd).room - (totA [] : Nat) < ((p : List UInt8).length : Nat) then 6 else 0) 0 = (0, ⟨1048576, 1, false, 0, 0, false⟩, [(AA, p, 0)]) from (step_ok (pre_ok (by kernel_rfl) (by show (p.length : Int) ≤ 1048576 - ((0 : Nat) : Int); omega)) (by decide)).trans (by kernel_rfl))
  have E2 := Lib.hid (show stepA ⟨1048576, 1, false, 0, 0, false⟩ [(AA, p, 0)] (synA [(AA, p, 0)] AA) (findA ⟨1048576, 1, false, 0, 0, false⟩ [(AA, p, 0)] AA) 2 = (0, ⟨1048576, 2, false, 0, 0, false⟩, [(AA, p, p.length)]) from (step_ok (by kernel_rfl) (by decide)).trans (by kernel_rfl))
  have E3 := Lib.hid (show stepA ⟨1048576, 2, false, 0, 0, false⟩ [(AA, p, p.length)] (apdA [(AA, p, p.length)] BB q) (if readyE ⟨1048576, 2, false, 0, 0, false⟩ BB ≠ 0 then readyE ⟨1048576, 2, false, 0, 0, false⟩ BB else if (⟨1048576, 2, false, 0, 0, false⟩ : Hd).room - (totA [(AA, p, p.length)] : Nat) < ((q : List UInt8).length : Nat) then 6 else 0) 0 = (0, ⟨1048576, 3, false, 0, 0, false⟩, [(AA, p, p.length), (BB, q, 0)]) from (step_ok (pre_ok (by kernel_rfl) (by show (q.length : Int) ≤ 1048576 - (totA [(AA, p, p.length)] : Nat); simp [totA]; omega)) (by decide)).trans (by kernel_rfl))
  have E4 := Lib.hid (show stepA ⟨1048576, 3, false, 0, 0, false⟩ [(AA, p, p.length), (BB, q, 0)] (synA [(AA, p, p.length), (BB, q, 0)] BB) (findA ⟨1048576, 3, false, 0, 0, false⟩ [(AA, p, p.length), (BB, q, 0)] BB) 2 = (0, ⟨1048576, 4, false, 0, 0, false⟩, [(AA, p, p.length), (BB, q, q.length)]) from (step_ok (by kernel_rfl) (by decide)).trans (by kernel_rfl))
  have E5 := Lib.hid (show stepA ⟨1048576, 4, false, max n 0, k, t⟩ [(AA, p, p.length), (BB, q, q.length)] (renA [(AA, p, p.length), (BB, q, q.length)] AA BB) (if findA ⟨1048576, 4, false, max n 0, k, t⟩ [(AA, p, p.length), (BB, q, q.length)] AA ≠ 0 then findA ⟨1048576, 4, false, max n 0, k, t⟩ [(AA, p, p.length), (BB, q, q.length)] AA else if goodN BB = true then 0 else 1) 1 = (7, ⟨1048576, 5, true, 0, 0, false⟩, [(BB, p, p.length)]) from by
    rw [step_off (by kernel_rfl) hl, if_pos hk]
    simp only [show renA [(AA, p, p.length), (BB, q, q.length)] AA BB = [(BB, p, p.length)] from by kernel_rfl, List.map_cons, List.map_nil, lose_safe]
    rfl)
  go_enter Try.func5, Try.ntmps5
  go_wp2_with fail
  refine HA.out.mono ?_
  rintro e w0 ⟨rfl, hb⟩
  have B0 := Lib.hid hb
  clear hb
  go_wp2_with fail
  have K0 := Lib.hid (L0.out.below B0.out)
  have K1 := Lib.hid (L1.out.below B0.out)
  refine (newA 1048576 _).mono ?_
  rintro e w1 ⟨rfl, d, hb⟩
  have D1 := Lib.hid d
  have B1 := Lib.hid hb
  have M1 := Lib.hid hb.size
  clear d hb
  go_wp2_with fail
  refine (appendA D1.out M1.out ⟨by decide, by decide, by decide⟩ (by simp [totA] <;> omega) (by simp) AA _ p (byt_arg K0.out B1.out) (by omega)).mono ?_
  intro e w2 h9
  obtain ⟨rfl, d, hk⟩ := h9.to E1.out
  have D2 := Lib.hid d
  have B2 := Lib.hid (B1.out.trans (hk.below (fun k hk => hk.1) (B1.out.size)))
  have M2 := Lib.hid B2.out.size
  clear d hk
  go_wp2_with fail
  refine (syncA D2.out M2.out ⟨by decide, by decide, by decide⟩ (by simp [totA] <;> omega) AA).mono ?_
  intro e w3 h9
  obtain ⟨rfl, d, hk⟩ := h9.to E2.out
  have D3 := Lib.hid d
  have B3 := Lib.hid (B2.out.trans (hk.below (fun k hk => hk.1) (B2.out.size)))
  have M3 := Lib.hid B3.out.size
  clear d hk
  go_wp2_with fail
  refine (appendA D3.out M3.out ⟨by decide, by decide, by decide⟩ (by simp [totA] <;> omega) (by simp) BB _ q (byt_arg K1.out B3.out) (by omega)).mono ?_
  intro e w4 h9
  obtain ⟨rfl, d, hk⟩ := h9.to E3.out
  have D4 := Lib.hid d
  have B4 := Lib.hid (B3.out.trans (hk.below (fun k hk => hk.1) (B3.out.size)))
  have M4 := Lib.hid B4.out.size
  clear d hk
  go_wp2_with fail
  refine (syncA D4.out M4.out ⟨by decide, by decide, by decide⟩ (by simp [totA] <;> omega) BB).mono ?_
  intro e w5 h9
  obtain ⟨rfl, d, hk⟩ := h9.to E4.out
  have D5 := Lib.hid d
  have B5 := Lib.hid (B4.out.trans (hk.below (fun k hk => hk.1) (B4.out.size)))
  have M5 := Lib.hid B5.out.size
  clear d hk
  go_wp2_with fail
  refine (armA D5.out n k t).mono ?_
  rintro e w6 ⟨rfl, d, hk⟩
  have D6 := Lib.hid d
  have B6 := Lib.hid (B5.out.trans (hk.below (fun k hk => hk.1) B5.out.size))
  have M6 := Lib.hid M5.out
  clear d hk
  go_wp2_with fail
  have Dx := Lib.hid (D6.out.cast (h' := ⟨1048576, 4, false, max n 0, k, t⟩) (A' := [(AA, p, p.length), (BB, q, q.length)]) (rfl) (rfl))
  clear D6
  have D6 := Dx
  clear Dx
  refine (renameA D6.out M6.out ⟨by show (0 : Int) ≤ 1048576 ∧ (1048576 : Int) ≤ 1048576; decide, ⟨by show 0 ≤ max n 0; omega, by show max n 0 ≤ 9223372036854775807; omega⟩, by show (0 : Int) ≤ 4 ∧ (4 : Int) ≤ 1099511627776; decide⟩ (by simp [totA] <;> omega) (by simp) AA BB).mono ?_
  intro e w7 h9
  obtain ⟨rfl, d, hk⟩ := h9.to E5.out
  have D7 := Lib.hid d
  have B7 := Lib.hid (B6.out.trans (hk.below (fun k hk => hk.1) (B6.out.size)))
  have M7 := Lib.hid B7.out.size
  clear d hk
  go_wp2_with fail
  refine (offA D7.out (by simp [totA] <;> omega) k t).mono ?_
  rintro e w8 ⟨rfl, d, hk⟩
  have D8 := Lib.hid d
  have B8 := Lib.hid (B7.out.trans (hk.below (fun k hk => hk.1) B7.out.size))
  have M8 := Lib.hid M7.out
  clear d hk
  go_wp2_with fail
  have Dx := Lib.hid (D8.out.cast (h' := ⟨1048576, 5, true, 0, 0, false⟩) (A' := [(BB, p, p.length)]) (rfl) (rfl))
  clear D8
  have D8 := Dx
  clear Dx
  refine (onA D8.out).mono ?_
  rintro e w9 ⟨rfl, d, hk⟩
  have D9 := Lib.hid d
  have B9 := Lib.hid (B8.out.trans (hk.below (fun k hk => hk.1) B8.out.size))
  have M9 := Lib.hid M8.out
  clear d hk
  go_wp2_with fail
  have Dx := Lib.hid (D9.out.cast (h' := ⟨1048576, 5, false, 0, 0, false⟩) (A' := [(BB, p, p.length)]) (rfl) (rfl))
  clear D9
  have D9 := Dx
  clear Dx
  refine (readA D9.out (by simp [totA] <;> omega) AA).mono ?_
  intro e w10 h9
  obtain ⟨rfl, hb⟩ := h9.err 5 (by kernel_rfl) (by decide)
  have D10 := Lib.hid (D9.out.below hb)
  have B10 := Lib.hid (B9.out.trans (hb.mono B9.out.size))
  clear hb
  go_wp2_with fail
  refine (readA D10.out (by simp [totA] <;> omega) BB).mono ?_
  intro e w11 h9
  obtain ⟨v2, rfl, ho2, hb⟩ := h9.ok (y := (BB, p, p.length)) (by kernel_rfl) (by kernel_rfl)
  obtain ⟨p8, n8, c8, rfl⟩ := own_slice (own_zero ho2)
  have B11 := Lib.hid (B10.out.trans (hb.mono B10.out.size))
  have c2 := own_conv ho2
  have c3 := lat_conv (K0.out.below B11.out)
  have c4 := lat_conv (K1.out.below B11.out)
  have BW := Lib.hid (B0.out.trans (B11.out.mono B0.out.size))
  clear hb ho2
  have k1 : decide (0 < k) = true := decide_eq_true (by omega)
  go_wp2_with fail
  go_ret
  exact ⟨rfl, BW.out⟩
set_option maxRecDepth 100000 in
set_option maxHeartbeats 2000000 in
theorem renames_three (u0 u1 : Value) (p q : List UInt8) (n k : Int) (t : Bool) (w : World) (h0 : BytsA w u0 p) (h1 : BytsA w u1 q) (hn : -9223372036854775808 ≤ n ∧ n ≤ 9223372036854775807) (hp : p.length ≤ 4096) (hq : q.length ≤ 4096) (hl : max n 0 = 1) (hk : ¬ doesB 1 k = true) (hk0 : k ≤ 0) : Calls Try.prog 5 #[u0, u1, .int .i64 n, .int .i64 k, .bool t] w (LawEnd w) := by
  have hl0 := h0.lat
  have hl1 := h1.lat
  clear h0 h1
  obtain ⟨pu, cu, rfl⟩ := lat_slice hl0
  obtain ⟨qu, du, rfl⟩ := lat_slice hl1
  have L0 := Lib.hid hl0
  have L1 := Lib.hid hl1
  clear hl0 hl1
  have HA := Lib.hid (alive_any w)
  have g1 : decide ((4096 : Int) < (p.length : Nat)) = false := decide_eq_false (by omega)
  have g2 : decide ((4096 : Int) < (q.length : Nat)) = false := decide_eq_false (by omega)
  have hroom : ((newH 1048576).room : Int) = 1048576 := rfl
  have E1 := Lib.hid (show stepA (newH 1048576) [] (apdA [] AA p) (if readyE (newH 1048576) AA ≠ 0 then readyE (newH 1048576) AA else if ((newH 1048576) : Hd).room - (totA [] : Nat) < ((p : List UInt8).length : Nat) then 6 else 0) 0 = (0, ⟨1048576, 1, false, 0, 0, false⟩, [(AA, p, 0)]) from (step_ok (pre_ok (by kernel_rfl) (by show (p.length : Int) ≤ 1048576 - ((0 : Nat) : Int); omega)) (by decide)).trans (by kernel_rfl))
  have E2 := Lib.hid (show stepA ⟨1048576, 1, false, 0, 0, false⟩ [(AA, p, 0)] (synA [(AA, p, 0)] AA) (findA ⟨1048576, 1, false, 0, 0, false⟩ [(AA, p, 0)] AA) 2 = (0, ⟨1048576, 2, false, 0, 0, false⟩, [(AA, p, p.length)]) from (step_ok (by kernel_rfl) (by decide)).trans (by kernel_rfl))
  have E3 := Lib.hid (show stepA ⟨1048576, 2, false, 0, 0, false⟩ [(AA, p, p.length)] (apdA [(AA, p, p.length)] BB q) (if readyE ⟨1048576, 2, false, 0, 0, false⟩ BB ≠ 0 then readyE ⟨1048576, 2, false, 0, 0, false⟩ BB else if (⟨1048576, 2, false, 0, 0, false⟩ : Hd).room - (totA [(AA, p, p.length)] : Nat) < ((q : List UInt8).length : Nat) then 6 else 0) 0 = (0, ⟨1048576, 3, false, 0, 0, false⟩, [(AA, p, p.length), (BB, q, 0)]) from (step_ok (pre_ok (by kernel_rfl) (by show (q.length : Int) ≤ 1048576 - (totA [(AA, p, p.length)] : Nat); simp [totA]; omega)) (by decide)).trans (by kernel_rfl))
  have E4 := Lib.hid (show stepA ⟨1048576, 3, false, 0, 0, false⟩ [(AA, p, p.length), (BB, q, 0)] (synA [(AA, p, p.length), (BB, q, 0)] BB) (findA ⟨1048576, 3, false, 0, 0, false⟩ [(AA, p, p.length), (BB, q, 0)] BB) 2 = (0, ⟨1048576, 4, false, 0, 0, false⟩, [(AA, p, p.length), (BB, q, q.length)]) from (step_ok (by kernel_rfl) (by decide)).trans (by kernel_rfl))
  have E5 := Lib.hid (show stepA ⟨1048576, 4, false, max n 0, k, t⟩ [(AA, p, p.length), (BB, q, q.length)] (renA [(AA, p, p.length), (BB, q, q.length)] AA BB) (if findA ⟨1048576, 4, false, max n 0, k, t⟩ [(AA, p, p.length), (BB, q, q.length)] AA ≠ 0 then findA ⟨1048576, 4, false, max n 0, k, t⟩ [(AA, p, p.length), (BB, q, q.length)] AA else if goodN BB = true then 0 else 1) 1 = (7, ⟨1048576, 5, true, 0, 0, false⟩, [(AA, p, p.length), (BB, q, q.length)]) from by
    rw [step_off (by kernel_rfl) hl, if_neg hk]
    simp only [List.map_cons, List.map_nil, lose_safe]
    rfl)
  go_enter Try.func5, Try.ntmps5
  go_wp2_with fail
  refine HA.out.mono ?_
  rintro e w0 ⟨rfl, hb⟩
  have B0 := Lib.hid hb
  clear hb
  go_wp2_with fail
  have K0 := Lib.hid (L0.out.below B0.out)
  have K1 := Lib.hid (L1.out.below B0.out)
  refine (newA 1048576 _).mono ?_
  rintro e w1 ⟨rfl, d, hb⟩
  have D1 := Lib.hid d
  have B1 := Lib.hid hb
  have M1 := Lib.hid hb.size
  clear d hb
  go_wp2_with fail
  refine (appendA D1.out M1.out ⟨by decide, by decide, by decide⟩ (by simp [totA] <;> omega) (by simp) AA _ p (byt_arg K0.out B1.out) (by omega)).mono ?_
  intro e w2 h9
  obtain ⟨rfl, d, hk⟩ := h9.to E1.out
  have D2 := Lib.hid d
  have B2 := Lib.hid (B1.out.trans (hk.below (fun k hk => hk.1) (B1.out.size)))
  have M2 := Lib.hid B2.out.size
  clear d hk
  go_wp2_with fail
  refine (syncA D2.out M2.out ⟨by decide, by decide, by decide⟩ (by simp [totA] <;> omega) AA).mono ?_
  intro e w3 h9
  obtain ⟨rfl, d, hk⟩ := h9.to E2.out
  have D3 := Lib.hid d
  have B3 := Lib.hid (B2.out.trans (hk.below (fun k hk => hk.1) (B2.out.size)))
  have M3 := Lib.hid B3.out.size
  clear d hk
  go_wp2_with fail
  refine (appendA D3.out M3.out ⟨by decide, by decide, by decide⟩ (by simp [totA] <;> omega) (by simp) BB _ q (byt_arg K1.out B3.out) (by omega)).mono ?_
  intro e w4 h9
  obtain ⟨rfl, d, hk⟩ := h9.to E3.out
  have D4 := Lib.hid d
  have B4 := Lib.hid (B3.out.trans (hk.below (fun k hk => hk.1) (B3.out.size)))
  have M4 := Lib.hid B4.out.size
  clear d hk
  go_wp2_with fail
  refine (syncA D4.out M4.out ⟨by decide, by decide, by decide⟩ (by simp [totA] <;> omega) BB).mono ?_
  intro e w5 h9
  obtain ⟨rfl, d, hk⟩ := h9.to E4.out
  have D5 := Lib.hid d
  have B5 := Lib.hid (B4.out.trans (hk.below (fun k hk => hk.1) (B4.out.size)))
  have M5 := Lib.hid B5.out.size
  clear d hk
  go_wp2_with fail
  refine (armA D5.out n k t).mono ?_
  rintro e w6 ⟨rfl, d, hk⟩
  have D6 := Lib.hid d
  have B6 := Lib.hid (B5.out.trans (hk.below (fun k hk => hk.1) B5.out.size))
  have M6 := Lib.hid M5.out
  clear d hk
  go_wp2_with fail
  have Dx := Lib.hid (D6.out.cast (h' := ⟨1048576, 4, false, max n 0, k, t⟩) (A' := [(AA, p, p.length), (BB, q, q.length)]) (rfl) (rfl))
  clear D6
  have D6 := Dx
  clear Dx
  refine (renameA D6.out M6.out ⟨by show (0 : Int) ≤ 1048576 ∧ (1048576 : Int) ≤ 1048576; decide, ⟨by show 0 ≤ max n 0; omega, by show max n 0 ≤ 9223372036854775807; omega⟩, by show (0 : Int) ≤ 4 ∧ (4 : Int) ≤ 1099511627776; decide⟩ (by simp [totA] <;> omega) (by simp) AA BB).mono ?_
  intro e w7 h9
  obtain ⟨rfl, d, hk⟩ := h9.to E5.out
  have D7 := Lib.hid d
  have B7 := Lib.hid (B6.out.trans (hk.below (fun k hk => hk.1) (B6.out.size)))
  have M7 := Lib.hid B7.out.size
  clear d hk
  go_wp2_with fail
  refine (offA D7.out (by simp [totA] <;> omega) k t).mono ?_
  rintro e w8 ⟨rfl, d, hk⟩
  have D8 := Lib.hid d
  have B8 := Lib.hid (B7.out.trans (hk.below (fun k hk => hk.1) B7.out.size))
  have M8 := Lib.hid M7.out
  clear d hk
  go_wp2_with fail
  have Dx := Lib.hid (D8.out.cast (h' := ⟨1048576, 5, true, 0, 0, false⟩) (A' := [(AA, p, p.length), (BB, q, q.length)]) (rfl) (rfl))
  clear D8
  have D8 := Dx
  clear Dx
  refine (onA D8.out).mono ?_
  rintro e w9 ⟨rfl, d, hk⟩
  have D9 := Lib.hid d
  have B9 := Lib.hid (B8.out.trans (hk.below (fun k hk => hk.1) B8.out.size))
  have M9 := Lib.hid M8.out
  clear d hk
  go_wp2_with fail
  have Dx := Lib.hid (D9.out.cast (h' := ⟨1048576, 5, false, 0, 0, false⟩) (A' := [(AA, p, p.length), (BB, q, q.length)]) (rfl) (rfl))
  clear D9
  have D9 := Dx
  clear Dx
  refine (readA D9.out (by simp [totA] <;> omega) AA).mono ?_
  intro e w10 h9
  obtain ⟨v1, rfl, ho1, hb⟩ := h9.ok (y := (AA, p, p.length)) (by kernel_rfl) (by kernel_rfl)
  obtain ⟨p7, n7, c7, rfl⟩ := own_slice (own_zero ho1)
  have O1 := Lib.hid ho1
  clear ho1
  have D10 := Lib.hid (D9.out.below hb)
  have B10 := Lib.hid (B9.out.trans (hb.mono B9.out.size))
  clear hb
  go_wp2_with fail
  refine (readA D10.out (by simp [totA] <;> omega) BB).mono ?_
  intro e w11 h9
  obtain ⟨v2, rfl, ho2, hb⟩ := h9.ok (y := (BB, q, q.length)) (by kernel_rfl) (by kernel_rfl)
  obtain ⟨p8, n8, c8, rfl⟩ := own_slice (own_zero ho2)
  have B11 := Lib.hid (B10.out.trans (hb.mono B10.out.size))
  have c2 := own_conv ho2
  have c3 := lat_conv (K0.out.below B11.out)
  have c4 := lat_conv (K1.out.below B11.out)
  have c1 := own_conv (gen_own_below O1.out hb)
  have BW := Lib.hid (B0.out.trans (B11.out.mono B0.out.size))
  clear hb ho2
  have k1 : decide (0 < k) = false := decide_eq_false (by omega)
  have k2 : decide (k ≤ 0) = true := decide_eq_true (by omega)
  go_wp2_with fail
  go_ret
  exact ⟨rfl, BW.out⟩
theorem renames_walk (u0 u1 : Value) (p q : List UInt8) (n k : Int) (t : Bool) (w : World) (h0 : BytsA w u0 p) (h1 : BytsA w u1 q) (hn : -9223372036854775808 ≤ n ∧ n ≤ 9223372036854775807) : Calls Try.prog 5 #[u0, u1, .int .i64 n, .int .i64 k, .bool t] w (LawEnd w) := by
  by_cases hg : 4096 < p.length ∨ 4096 < q.length
  · exact renames_great u0 u1 p q n k t w h0 h1 hn hg
  · have hp : p.length ≤ 4096 := by omega
    have hq : q.length ≤ 4096 := by omega
    by_cases hl : max n 0 = 1
    · by_cases hk : 0 < k
      · exact renames_two u0 u1 p q n k t w h0 h1 hn hp hq hl (by simp [doesB, hk]) hk
      · exact renames_three u0 u1 p q n k t w h0 h1 hn hp hq hl (by simp [doesB]; omega) (by omega)
    · exact renames_one u0 u1 p q n k t w h0 h1 hn hp hq hl
end Go.Proofs.Ytfmcemedaehcoaa
