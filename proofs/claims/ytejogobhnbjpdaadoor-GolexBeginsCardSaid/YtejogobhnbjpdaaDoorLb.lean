/- Walks: the statement GolexBegins. -/
import Derived.Test.YtejogobhnbjpdaaDoorHc
namespace Go.Proofs.YtejogobhnbjpdaaDoor
set_option linter.unusedVariables false
set_option linter.unusedSimpArgs false
open Go.ChangeShapes Go.WideShapes Go.ChangeAt Go.RowKit

theorem LAt.takeB {w : World} {b off cap n_ : Nat} {l : List Tk} (h : LAt 3 tkV w (.slice (some ⟨b, off, none⟩) n_ cap) l) {k : Nat} (hk : k ≤ l.length) : LAt 3 tkV w (.slice (some ⟨b, off, none⟩) k cap) (l.take k) := by
  obtain ⟨hl, h⟩ := h
  refine ⟨fun x hx => hl x (List.mem_of_mem_take hx), ?_⟩
  rcases h with ⟨p, c, hv, rfl⟩ | ⟨b', off', cap', hv, hb, hcap, hmax, hcell⟩
  · have hk0 : k = 0 := by simpa using hk
    subst hk0
    exact .inl ⟨_, _, rfl, rfl⟩
  · injection hv with hv1 hv2 hv3
    injection hv1 with hv1
    injection hv1 with hv4 hv5
    subst hv4; subst hv5; subst hv3
    refine .inr ⟨b, off, cap, by rw [List.length_take, Nat.min_eq_left hk], hb, by rw [List.length_take]; omega, hmax, fun j x hx => hcell j x ?_⟩
    have e2 : LF tkV l = LF tkV (l.take k) ++ LF tkV (l.drop k) := by rw [← LF_app, List.take_append_drop]
    rw [e2, List.getElem?_append_left (List.getElem?_eq_some_iff.1 hx).1]
    exact hx
theorem isEmpty_eq2 (x : ByteArray) : (x.toList == ([] : List UInt8)) = decide (x.size = 0) := by
  rw [beq_lst, Bool.eq_iff_iff, decide_eq_true_eq, decide_eq_true_eq, Lib.size_eq]
  constructor
  · intro h; rw [h]; rfl
  · intro h; exact List.eq_nil_of_length_eq_zero h
theorem isDot_eq (x : ByteArray) : (x.toList == ([46] : List UInt8)) = decide (x = ⟨#[46]⟩) := by
  rw [beq_lst, Bool.eq_iff_iff, decide_eq_true_eq, decide_eq_true_eq]
  constructor
  · intro h; exact ba_ext h
  · intro h; rw [h]
set_option maxRecDepth 100000 in
set_option maxHeartbeats 2000000 in
theorem begins_walk (s o : ByteArray) (z : Int) (w : World) (hs0 : s.size ≤ 140737488351232) (ho0 : o.size ≤ 140737488351232) (hTab : Tabs w) : Calls Tryd.prog 6 #[.string s, .string o, .int .i64 z] w (LawEnd w) := by
  have HA := Lib.hid (alive_any w hTab)
  have HT := Lib.hid hTab
  clear hTab
  by_cases hbig : 1024 < s.size
  · have hbI : (1024 : Int) < (s.size : Int) := by omega
    go_enter Tryd.func6, Tryd.ntmps6
    go_wp2_with fail
    refine HA.out.mono ?_
    rintro r w1 ⟨rfl, hB⟩
    have HB := Lib.hid hB
    clear hB
    go_wp2_with fail
    go_ret
    exact ⟨rfl, HB.out⟩
  have hbI : ¬ (1024 : Int) < (s.size : Int) := by omega
  by_cases hbig2 : 1024 < o.size
  · have hbI2 : (1024 : Int) < (o.size : Int) := by omega
    go_enter Tryd.func6, Tryd.ntmps6
    go_wp2_with fail
    refine HA.out.mono ?_
    rintro r w1 ⟨rfl, hB⟩
    have HB := Lib.hid hB
    clear hB
    go_wp2_with fail
    go_ret
    exact ⟨rfl, HB.out⟩
  have hbI2 : ¬ (1024 : Int) < (o.size : Int) := by omega
  have HLX := Lib.hid (fun w1 (h1 : Below w.heap.size w w1) => lex_any s w1 (by omega) (tabs_below HT.out h1))
  have HTb := Lib.hid (lexL_tkb (s := s) (by omega))
  have hlen := (lexL_len s).1
  have hlen1 : 0 < (lexL s).length := by
    obtain ⟨x, hx⟩ := lexT_pre s (skN s) [] []
    rcases Nat.eq_zero_or_pos (lexL s).length with h | h
    · have hc := covers_ok s (skN s) [] [] (skN_le s) (skN s) (Nat.le_refl _) .nil
      obtain ⟨x, y, t, F, h1, _⟩ := hc.f
      have : lexL s = [] ++ x ++ [t] := by unfold lexL; rw [h1]
      rw [this] at h; simp at h
    · exact h
  have HSZ := Lib.hid (fun (i k p : Nat) (x : ByteArray) (h : (lexL s)[i]? = some (k, x, p)) (hx : x.size ≠ 0) => (by
    obtain ⟨g1, g2, g3, g4⟩ := lexT_at s (skN s) [] [] i k p x (Nat.zero_le _) h hx
    have h := (thing_ends g2).2 (by rw [g3]; rfl)
    rw [g3] at h
    exact h.2.1 : p + x.size ≤ s.size))
  have HLAW := Lib.hid (fun (s' : ByteArray) (j k p : Nat) (x : ByteArray) (t0 : Tk) h0 hd h1 hx hsz hag => begins_law (s := s) (s' := s') (j := j) (k := k) (p := p) (x := x) (t0 := t0) h0 hd h1 hx hsz hag)
  generalize lexL s = L at *
  obtain ⟨n, hn⟩ : ∃ n, L.length = n + 1 := ⟨L.length - 1, by omega⟩
  have Hn := Lib.hid hn
  have PRE : ∀ (Q : Prop), True := fun _ => trivial
  by_cases hz0 : z < 0
  · go_enter Tryd.func6, Tryd.ntmps6
    go_wp2_with fail
    refine HA.out.mono ?_
    rintro r w1 ⟨rfl, hB⟩
    have HB1 := Lib.hid hB
    clear hB
    go_wp2_with fail
    refine (HLX.out _ HB1.out).mono ?_
    rintro r w2 ⟨v, rfl, hv, hB2⟩
    obtain ⟨pp, cap, rfl, hp⟩ := hv.shape
    have HB := Lib.hid (HB1.out.trans (hB2.mono HB1.out.size))
    clear hv hB2 hp
    go_wp2_with fail
    go_ret
    exact ⟨rfl, HB.out⟩
  by_cases hzn : (n : Int) ≤ z
  · rw [hn] at hlen
    go_enter Tryd.func6, Tryd.ntmps6
    go_wp2_with fail
    refine HA.out.mono ?_
    rintro r w1 ⟨rfl, hB⟩
    have HB1 := Lib.hid hB
    clear hB
    go_wp2_with fail
    refine (HLX.out _ HB1.out).mono ?_
    rintro r w2 ⟨v, rfl, hv, hB2⟩
    obtain ⟨pp, cap, rfl, hp⟩ := hv.shape
    have HB := Lib.hid (HB1.out.trans (hB2.mono HB1.out.size))
    rw [hn] at *
    have hnn : (n : Int) + 1 - 1 = n := by omega
    clear hv hB2 hp hn
    go_wp2_with fail
    go_ret
    exact ⟨rfl, HB.out⟩
  obtain ⟨j, rfl⟩ : ∃ j : Nat, z = (j : Int) := ⟨z.toNat, by omega⟩
  have hjn : j < n := by omega
  obtain ⟨⟨k0, x0, p0⟩, hx0⟩ : ∃ t, L[j]? = some t := ⟨_, List.getElem?_eq_getElem (by omega)⟩
  obtain ⟨⟨k1, x1, p1⟩, hx1⟩ : ∃ t, L[j + 1]? = some t := ⟨_, List.getElem?_eq_getElem (by omega)⟩
  have hnn : (n : Int) + 1 - 1 = n := by omega
  have hnb : n ≤ 1026 := by omega
  have hwn : wrap64 (n : Int) = (n : Int) := by unfold wrap64; omega
  have hwj : wrap64 ((j : Int) + 1) = (j : Int) + 1 := by unfold wrap64; omega
  have htn : ((j : Int) + 1).toNat = j + 1 := by omega
  have hjI : (j : Int) < (n : Int) := by omega
  have hjI2 : ¬ (n : Int) ≤ (j : Int) := by omega
  have hj0 : ¬ (j : Int) < 0 := by omega
  have hj1 : (j : Int) + 1 < (n : Int) + 1 := by omega
  have hj2 : (j : Int) < (n : Int) + 1 := by omega
  have Hx0 := Lib.hid hx0
  have Hx1 := Lib.hid hx1
  have E0 := isEmpty_eq2 x0
  have E1 := isEmpty_eq2 x1
  have D0 := isDot_eq x0
  clear hx0 hx1 hz0 hzn hlen hlen1 hn
  by_cases a0 : x0.size = 0
  · rw [decide_eq_true a0] at E0
    clear a0 E1 D0
    go_enter Tryd.func6, Tryd.ntmps6
    go_wp2_with fail
    refine HA.out.mono ?_
    rintro r w1 ⟨rfl, hB⟩
    have HB1 := Lib.hid hB
    clear hB
    go_wp2_with fail
    refine (HLX.out _ HB1.out).mono ?_
    rintro r w2 ⟨v, rfl, hv, hB2⟩
    obtain ⟨pp, cap, rfl, hp⟩ := hv.shape
    obtain ⟨b, off, rfl⟩ := hp (by rw [Hn.out]; omega)
    have HB := Lib.hid (HB1.out.trans (hB2.mono HB1.out.size))
    have e01 := (hv.cells Hx0.out).2.2.1
    have e11 := (hv.cells Hx1.out).2.2.1
    have e12 := (hv.cells Hx1.out).2.2.2
    have HV := Lib.hid hv
    clear hv hB2 hp
    rw [Hn.out] at HV ⊢
    go_wp2_with fail
    go_ret
    exact ⟨rfl, HB.out⟩
  rw [decide_eq_false a0] at E0
  by_cases a1 : x0 = ⟨#[46]⟩
  · rw [decide_eq_true a1] at D0
    have Ha1 := Lib.hid a1
    clear a0 a1 E1
    go_enter Tryd.func6, Tryd.ntmps6
    go_wp2_with fail
    refine HA.out.mono ?_
    rintro r w1 ⟨rfl, hB⟩
    have HB1 := Lib.hid hB
    clear hB
    go_wp2_with fail
    refine (HLX.out _ HB1.out).mono ?_
    rintro r w2 ⟨v, rfl, hv, hB2⟩
    obtain ⟨pp, cap, rfl, hp⟩ := hv.shape
    obtain ⟨b, off, rfl⟩ := hp (by rw [Hn.out]; omega)
    have HB := Lib.hid (HB1.out.trans (hB2.mono HB1.out.size))
    have e01 := (hv.cells Hx0.out).2.2.1
    have e11 := (hv.cells Hx1.out).2.2.1
    have e12 := (hv.cells Hx1.out).2.2.2
    have HV := Lib.hid hv
    clear hv hB2 hp
    rw [Hn.out] at HV ⊢
    go_wp2_with fail
    go_ret
    exact ⟨rfl, HB.out⟩
  rw [decide_eq_false a1] at D0
  by_cases a2 : x1.size = 0
  · rw [decide_eq_true a2] at E1
    clear a0 a1 a2
    go_enter Tryd.func6, Tryd.ntmps6
    go_wp2_with fail
    refine HA.out.mono ?_
    rintro r w1 ⟨rfl, hB⟩
    have HB1 := Lib.hid hB
    clear hB
    go_wp2_with fail
    refine (HLX.out _ HB1.out).mono ?_
    rintro r w2 ⟨v, rfl, hv, hB2⟩
    obtain ⟨pp, cap, rfl, hp⟩ := hv.shape
    obtain ⟨b, off, rfl⟩ := hp (by rw [Hn.out]; omega)
    have HB := Lib.hid (HB1.out.trans (hB2.mono HB1.out.size))
    have e01 := (hv.cells Hx0.out).2.2.1
    have e11 := (hv.cells Hx1.out).2.2.1
    have e12 := (hv.cells Hx1.out).2.2.2
    have HV := Lib.hid hv
    clear hv hB2 hp
    rw [Hn.out] at HV ⊢
    go_wp2_with fail
    go_ret
    exact ⟨rfl, HB.out⟩
  rw [decide_eq_false a2] at E1
  have hen := HSZ.out _ _ _ _ Hx1.out a2
  have A1 := Lib.hid a1
  have A2 := Lib.hid a2
  have henI : (p1 : Int) + (x1.size : Int) ≤ (s.size : Int) := by omega
  clear a0 a1 a2
  go_enter Tryd.func6, Tryd.ntmps6
  go_wp2_with fail
  refine HA.out.mono ?_
  rintro r w1 ⟨rfl, hB⟩
  have HB1 := Lib.hid hB
  clear hB
  go_wp2_with fail
  refine (HLX.out _ HB1.out).mono ?_
  rintro r w2 ⟨v, rfl, hv, hB2⟩
  obtain ⟨pp, cap, rfl, hp⟩ := hv.shape
  obtain ⟨b, off, rfl⟩ := hp (by rw [Hn.out]; omega)
  have HB := Lib.hid (HB1.out.trans (hB2.mono HB1.out.size))
  have e01 := (hv.cells Hx0.out).2.2.1
  have e11 := (hv.cells Hx1.out).2.2.1
  have e12 := (hv.cells Hx1.out).2.2.2
  have HV := Lib.hid hv
  clear hv hB2 hp
  rw [Hn.out] at HV ⊢
  go_wp2_with fail

  go_quiet (fail)
  go_wp2_with fail
  have hse : (s.extract 0 (p1 + x1.size)).size = p1 + x1.size := by rw [ByteArray.size_extract]; omega
  have hag := fun i (hi : i < p1 + x1.size) => (show byt s i = byt (s.extract 0 (p1 + x1.size) ++ o) i by rw [byt_app_l (by omega), byt_ext hen hi])
  have hs2 : (s.extract 0 (p1 + x1.size) ++ o).size = p1 + x1.size + o.size := by rw [ByteArray.size_append, hse]
  have HTK := Lib.hid (HLAW.out (s.extract 0 (p1 + x1.size) ++ o) j k1 p1 x1 (k0, x0, p0) Hx0.out A1.out Hx1.out A2.out (by omega) hag)
  have HLX2 := lex_any (s.extract 0 (p1 + x1.size) ++ o) (w2.drewN nq) (by omega) (tabs_below HT.out (below_drewN HB.out nq))
  have HTb2 := Lib.hid (lexL_tkb (s := s.extract 0 (p1 + x1.size) ++ o) (by omega))
  have hlen2 := (lexL_len (s.extract 0 (p1 + x1.size) ++ o)).1
  rw [hs2] at hlen2
  generalize s.extract 0 (p1 + x1.size) ++ o = s2 at *
  generalize lexL s2 = L2 at *
  have HLX2 := Lib.hid HLX2
  have hj1 : j + 1 ≤ L2.length := by
    have h := congrArg List.length HTK.out
    rw [List.length_take, List.length_take, Hn.out] at h
    omega
  clear hse hag hs2
  refine HLX2.out.mono ?_
  rintro r w3 ⟨v2, rfl, hv2, hB3⟩
  obtain ⟨pp2, cap2, rfl, hp2⟩ := hv2.shape
  obtain ⟨b2, off2, rfl⟩ := hp2 (by omega)
  obtain ⟨n2, hn2⟩ : ∃ n2, n2 = L2.length := ⟨_, rfl⟩
  rw [← hn2] at hv2 hj1 hlen2 ⊢
  have hBB := (below_drewN (Below.refl w2.heap.size w2) nq).trans hB3
  have HV3 := Lib.hid (HV.out.below hBB)
  have HBf := Lib.hid (HB.out.trans (hBB.mono HB.out.size))
  have Hn2 := Lib.hid hn2
  have hcp2 : n2 ≤ cap2 := by
    rcases hv2.2 with ⟨_, _, _, h⟩ | ⟨_, _, _, hv, _, hc, _⟩
    · rw [h] at hn2; simp at hn2; omega
    · injection hv with _ _ h3; omega
  have hcp : n + 1 ≤ cap := by
    rcases HV.out.2 with ⟨_, _, _, h⟩ | ⟨_, _, _, hv, _, hc, _⟩
    · have := Hn.out; rw [h] at this; simp at this
    · injection hv with _ _ h3; have := Hn.out; omega
  have HS : Hid (∀ w1, Below w3.heap.size w3 w1 → Calls Tryd.prog 16 #[.slice (some ⟨b2, off2, none⟩) (j + 1) cap2, .slice (some ⟨b, off, none⟩) (j + 1) cap] w1 fun e w' => e = .returned (.bool true) ∧ Below w3.heap.size w3 w') :=
    Lib.hid (fun w1 h1 => by
      have h := same_any _ _ (L2.take (j + 1)) (L.take (j + 1)) w1 ((hv2.takeB (by omega)).below h1) ((HV3.out.takeB (by rw [Hn.out]; omega)).below h1) (fun t ht => HTb2.out t (List.mem_of_mem_take ht)) (fun t ht => HTb.out t (List.mem_of_mem_take ht)) (by rw [List.length_take]; omega) (by rw [List.length_take]; omega)
      rw [HTK.out, decide_eq_true rfl] at h
      exact h.mono (fun e w4 hh => ⟨hh.1, h1.trans (hh.2.mono h1.size)⟩))
  have hjn2 : (j : Int) < (n2 : Int) := by omega
  have hjn2N : decide (j < n2) = true := decide_eq_true (by omega)
  have hjc2 : (j : Int) + 1 ≤ (cap2 : Int) := by omega
  have hjc : (j : Int) + 1 ≤ (cap : Int) := by omega
  have hj0' : (0 : Int) ≤ (j : Int) + 1 := by omega
  clear hv2 hB3 hp2 hn2 hBB e01 e11 e12
  go_wp2_with fail
  refine wp_region_class (Below w3.heap.size w3) (by kernel_rfl) (by kernel_rfl) (Below.refl _ _).drew ?_
  repeat (go_big_quiet_step (first | (intro hh; with_reducible exact HS.out _ hh) | (intro _; rfl)))
  refine wpQuiet_nil ?_
  intro wq hBq
  have HBe := Lib.hid (HBf.out.trans (hBq.mono HBf.out.size))
  clear hBq
  go_wp2_with fail
  go_ret
  exact ⟨rfl, HBe.out⟩
end Go.Proofs.YtejogobhnbjpdaaDoor
