/- Walks: the statement ShaParts. -/
import Derived.Test.YtbenegkhekofmaaDoorLd
import Derived.Test.YtbenegkhekofmaaDoorKz
namespace Go.Proofs.YtbenegkhekofmaaDoor
set_option linter.unusedVariables false
set_option linter.unusedSimpArgs false
open Go.ChangeShapes Go.WideShapes Go.ChangeAt Go.RowKit

theorem unkilled {kl : List (List Nat)} {j : Nat} (h : (kl.all fun x => !x.contains j) = true) : ∀ i, j ∉ kl.getD i [] := by
  intro i hi
  rcases Nat.lt_or_ge i kl.length with hlt | hge
  · have e : kl.getD i [] = kl[i] := by simp [List.getD, hlt]
    rw [e] at hi
    have := List.all_eq_true.1 h _ (List.getElem_mem hlt)
    simp at this
    exact this hi
  · have e : kl.getD i [] = [] := by simp [List.getD, List.getElem?_eq_none hge]
    rw [e] at hi; cases hi


def BytV (l : List Nat) : Value → World → Prop := fun v w => BytsN w v l
theorem BytV.st1 (l : List Nat) : St1 (BytV l) := fun v w1 w2 h hB => h.below hB
theorem text_eq {x y : ByteArray} (h : x = y) : (x.toList == y.toList) = true := by rw [h]; simp
theorem text_ne {x y : ByteArray} (h : x ≠ y) : (x.toList == y.toList) = false := toList_beq_ne h
theorem parts_one (p q : ByteArray) (a b : List ByteArray) (hp : p.size + q.size ≤ 1024) (ha : isGreat a = false) (hb : isGreat b = false) (h : joinB (p :: a) = joinB (q :: b)) : p = q ∧ a = b := by
  obtain ⟨h1, h2⟩ := not_great ha
  obtain ⟨h3, h4⟩ := not_great hb
  have := (join_one (p :: a) (q :: b) (by simp; omega) (by simp; omega) (fun x hx => by
    rcases List.mem_cons.1 hx with rfl | hx
    · omega
    · have := total_mem a x hx; omega) (fun x hx => by
    rcases List.mem_cons.1 hx with rfl | hx
    · omega
    · have := total_mem b x hx; omega)).1 h
  simpa using this

set_option maxHeartbeats 1000000 in
theorem parts_great (p q : ByteArray) (v u : Value) (a b : List ByteArray) (w : World) (hp : p.size ≤ 140737488351232) (hq : q.size ≤ 140737488351232) (hv : Strs w v a) (hu : Strs w u b) (hza : ∀ s ∈ a, s.size ≤ 140737488351232) (hzb : ∀ s ∈ b, s.size ≤ 140737488351232) (hK : KeysAt w)
    (h : isGreat a = true ∨ isGreat b = true ∨ 1024 < p.size + q.size) : Calls Tryd.prog 6 #[.string p, v, .string q, u] w (LawEnd w) := by
  have HA := Lib.hid (alive_any w hK)
  have HG1 := Lib.hid (fun w1 (hB : Below w.heap.size w w1) => great_any v a w1 (hv.below hB) hza)
  have HG2 := Lib.hid (fun w1 (hB : Below w.heap.size w w1) => great_any u b w1 (hu.below hB) hzb)
  obtain ⟨pa, ca, rfl⟩ := hv.shape
  obtain ⟨pb, cb, rfl⟩ := hu.shape
  clear hK hv hu hza hzb
  generalize a.length = na at *
  generalize b.length = nb at *
  cases hg : isGreat a with
  | true =>
    rw [hg] at HG1
    clear h hg
    go_enter Tryd.func6, Tryd.ntmps6
    go_wp2_with fail
    refine HA.out.mono ?_
    rintro e w1 ⟨rfl, hB1⟩
    go_wp2_with fail
    refine (HG1.out _ hB1).mono ?_
    rintro e w2 ⟨rfl, rfl⟩
    go_wp2_with fail
    go_ret
    exact ⟨rfl, hB1⟩
  | false =>
    rw [hg] at HG1 h
    cases hg2 : isGreat b with
    | true =>
      rw [hg2] at HG2
      clear h hg hg2
      go_enter Tryd.func6, Tryd.ntmps6
      go_wp2_with fail
      refine HA.out.mono ?_
      rintro e w1 ⟨rfl, hB1⟩
      go_wp2_with fail
      refine (HG1.out _ hB1).mono ?_
      rintro e w2 ⟨rfl, rfl⟩
      go_wp2_with fail
      refine (HG2.out _ hB1).mono ?_
      rintro e w2 ⟨rfl, rfl⟩
      go_wp2_with fail
      go_ret
      exact ⟨rfl, hB1⟩
    | false =>
      rw [hg2] at HG2 h
      have hI : (1024 : Int) < (p.size : Int) + q.size := by simp at h; omega
      clear h hg hg2
      go_enter Tryd.func6, Tryd.ntmps6
      go_wp2_with fail
      refine HA.out.mono ?_
      rintro e w1 ⟨rfl, hB1⟩
      go_wp2_with fail
      refine (HG1.out _ hB1).mono ?_
      rintro e w2 ⟨rfl, rfl⟩
      go_wp2_with fail
      refine (HG2.out _ hB1).mono ?_
      rintro e w2 ⟨rfl, rfl⟩
      go_wp2_with fail
      go_ret
      exact ⟨rfl, hB1⟩

set_option maxRecDepth 100000 in
set_option maxHeartbeats 2000000 in
theorem parts_purp (p q : ByteArray) (v u : Value) (a b : List ByteArray) (w : World) (hpq : p.size + q.size ≤ 1024) (hv : Strs w v a) (hu : Strs w u b) (hza : ∀ s ∈ a, s.size ≤ 140737488351232) (hzb : ∀ s ∈ b, s.size ≤ 140737488351232) (hK : KeysAt w)
    (hga : isGreat a = false) (hgb : isGreat b = false) (hcase : p ≠ q) : Calls Tryd.prog 6 #[.string p, v, .string q, u] w (LawEnd w) := by
  obtain ⟨hta, hla⟩ := not_great hga
  obtain ⟨htb, hlb⟩ := not_great hgb
  have HA := Lib.hid (alive_any w hK)
  have HG1 := Lib.hid (fun w1 (hB : Below w.heap.size w w1) => great_any v a w1 (hv.below hB) hza)
  have HG2 := Lib.hid (fun w1 (hB : Below w.heap.size w w1) => great_any u b w1 (hu.below hB) hzb)
  rw [hga] at HG1
  rw [hgb] at HG2
  have hta' : total (p :: a) ≤ 9216 := by simp [total]; omega
  have htb' : total (q :: b) ≤ 9216 := by simp [total]; omega
  have hjx := joinB_size (p :: a)
  have hjy := joinB_size (q :: b)
  simp only [List.length_cons] at hjx hjy
  have HV1 := Lib.hid (fun w1 (hB : Below w.heap.size w w1) => hv.below hB)
  have HV2 := Lib.hid (fun w1 (hB : Below w.heap.size w w1) => hu.below hB)
  have HJ1 := Lib.hid (fun u w1 (hu : Strs w1 u (p :: a)) => refJoin_any u (p :: a) w1 hu (by omega) (by simp; omega))
  have HJ2 := Lib.hid (fun v w1 (hv : Strs w1 v (q :: b)) => refJoin_any v (q :: b) w1 hv (by omega) (by simp; omega))
  have HSm := Lib.hid (fun w1 (hB : Below w.heap.size w w1) => same_any v u a b w1 (hv.below hB) (hu.below hB) (by omega) (by omega))
  have HS1' := Lib.hid (fun w1 (hB : Below w.heap.size w w1) => sum_any p v a w1 (hK.below hK.1 hB) (hv.below hB) (by omega) (by omega))
  have HS2' := Lib.hid (fun w1 (hB : Below w.heap.size w w1) => sum_any q u b w1 (hK.below hK.1 hB) (hu.below hB) (by omega) (by omega))
  have HCX := Lib.hid (fun w1 => conv_bytes (joinB (p :: a)) w1 (by omega))
  have HCY := Lib.hid (fun w1 => conv_bytes (joinB (q :: b)) w1 (by omega))
  have HDX := Lib.hid (fun v w1 (hv : BytsN w1 v (bytesL (joinB (p :: a)))) => dof_any v _ w1 hv (bytesL_small _) (by rw [bytesL_len]; omega))
  have HDY := Lib.hid (fun v w1 (hv : BytsN w1 v (bytesL (joinB (q :: b)))) => dof_any v _ w1 hv (bytesL_small _) (by rw [bytesL_len]; omega))
  have H24 := Lib.hid (fun w => eq24 (shaL (bytesL (joinB (p :: a)))) (shaL (bytesL (joinB (q :: b)))) (shaL_len _) (shaL_len _) (shaL_small _) (shaL_small _) w)
  have H23 := Lib.hid (fun w => eq23 (shaL (bytesL (joinB (p :: a)))) (shaL (bytesL (joinB (q :: b)))) (shaL_len _) (shaL_len _) (shaL_small _) (shaL_small _) w)
  have Hone := Lib.hid (parts_one p q a b hpq hga hgb)
  obtain ⟨pa, ca, rfl⟩ := hv.shape
  obtain ⟨pb, cb, rfl⟩ := hu.shape
  have hpe : (p.toList == q.toList) = false := text_ne hcase
  have hxy := text_ne (fun h => hcase (Hone.out h).1)
  obtain ⟨na, hna⟩ : ∃ na, na = a.length := ⟨_, rfl⟩
  obtain ⟨nb, hnb⟩ : ∃ nb, nb = b.length := ⟨_, rfl⟩
  rw [← hna] at HG1 HV1 HSm HS1' hla
  rw [← hnb] at HG2 HV2 HSm HS2' hlb
  rw [← hna, ← hnb]
  have Hna := Lib.hid hna
  have Hnb := Lib.hid hnb
  have Hpe := Lib.hid hpe
  clear hK hv hu hza hzb hga hgb Hone hta htb hta' htb' hjx hjy hna hpe hnb
  have Hxy := Lib.hid hxy
  clear hxy hcase
  generalize joinB (p :: a) = X at *
  generalize joinB (q :: b) = Y at *
  generalize bytesL X = LX at *
  generalize bytesL Y = LY at *
  generalize shaL LX = DX at *
  generalize shaL LY = DY at *
  generalize decide (DX = DY) = c at *
  have hI : ¬ (1024 : Int) < (p.size : Int) + q.size := by omega
  go_enter Tryd.func6, Tryd.ntmps6
  go_wp2_with fail
  refine HA.out.mono ?_
  rintro e w1 ⟨rfl, hB1⟩
  go_wp2_with fail
  refine (HG1.out _ hB1).mono ?_
  rintro e w2 ⟨rfl, rfl⟩
  go_wp2_with fail
  refine (HG2.out _ hB1).mono ?_
  rintro e w2 ⟨rfl, rfl⟩
  go_wp2_with (at_builtin; refine wpList_append_strs rfl (.tmp 29) (.tmp 30) rfl w.heap.size _ [p] rfl (own_text w1 w.heap.size p hB1.size) _ a (HV1.out _ (hB1.alloc hB1.size _)) rfl (by have := Hna.out; simp; omega) (by have := hB1.size; simp; omega) ?_; intro v2 w2 hown2 hgrow2; have hb2 := (hB1.alloc hB1.size _).grown hgrow2 (by have := hB1.size; simp; omega) (fun k hk => ((own_text w1 w.heap.size p hB1.size).lt k hk).1); have hs2 := Strs.ofOwn hown2; clear hown2 hgrow2 hB1)
  refine (HJ1.out _ w2 hs2).mono ?_
  rintro e w3 ⟨rfl, hB3⟩
  have hb3 := hb2.trans (hB3.mono hb2.size)
  clear hb2 hs2 hB3
  go_wp2_with (at_builtin; refine wpList_append_strs rfl (.tmp 34) (.tmp 35) rfl w.heap.size _ [q] rfl (own_text w3 w.heap.size q hb3.size) _ b (HV2.out _ (hb3.alloc hb3.size _)) rfl (by have := Hnb.out; simp; omega) (by have := hb3.size; simp; omega) ?_; intro v4 w4 hown4 hgrow4; have hb4 := (hb3.alloc hb3.size _).grown hgrow4 (by have := hb3.size; simp; omega) (fun k hk => ((own_text w3 w.heap.size q hb3.size).lt k hk).1); have hs4 := Strs.ofOwn hown4; clear hown4 hgrow4 hb3)
  refine (HJ2.out _ w4 hs4).mono ?_
  rintro e w5 ⟨rfl, hB5⟩
  have hb5 := hb4.trans (hB5.mono hb4.size)
  clear hb4 hs4 hB5
  have hpe := Hpe.out
  go_wp2_with fail
  clear hpe
  have HS1 := Lib.hid (fun w1 (h1 : Below w5.heap.size w5 w1) => HS1'.out w1 (hb5.trans (h1.mono hb5.size)))
  have HS2 := Lib.hid (fun w1 (h1 : Below w5.heap.size w5 w1) => HS2'.out w1 (hb5.trans (h1.mono hb5.size)))
  have hxy := Hxy.out
  have hRL : ∃ Rs : List (Value → World → Prop), Rs = [PureV (.bool false),
      PureV (.string X),
      PureV (.string Y),
      PureV (.bool false),
      PureV (.bool true),
      PureV (.bool true),
      PureV (.string p),
      PureV (.slice pa na ca),
      PureV (.agg (ints .u8 DX)),
      PureV (.string q),
      PureV (.slice pb nb cb),
      PureV (.agg (ints .u8 DY)),
      PureV (.bool c),
      PureV (.bool false),
      PureV (.bool false),
      PureV (.string X),
      BytV LX,
      PureV (.agg (ints .u8 DX)),
      PureV (.string Y),
      BytV LY,
      PureV (.agg (ints .u8 DY)),
      PureV (.bool c),
      PureV (.bool c),
      PureV (.bool true),
      PureV (.bool true),
      PureV (.bool true)] := ⟨_, rfl⟩
  obtain ⟨Rs, hRs⟩ := hRL
  refine wp_region_rel (RL Rs) [2, 2, 2, 2, 2, 2, 2, 2, 2, 2, 2, 2, 2, 2, 2, 2, 1, 2, 2, 1, 2, 2, 2, 2, 2, 2] [1, 1, 1, 1, 1, 1, 1, 1, 1, 1, 1, 1, 1, 1, 1, 1, 1, 1, 1, 1, 1, 1, 1, 1, 1, 1] [] (by kernel_rfl) (by kernel_rfl) (RL.st1 (by rw [hRs]; exact st1_cons (PureV.st1 _) (st1_cons (PureV.st1 _) (st1_cons (PureV.st1 _) (st1_cons (PureV.st1 _) (st1_cons (PureV.st1 _) (st1_cons (PureV.st1 _) (st1_cons (PureV.st1 _) (st1_cons (PureV.st1 _) (st1_cons (PureV.st1 _) (st1_cons (PureV.st1 _) (st1_cons (PureV.st1 _) (st1_cons (PureV.st1 _) (st1_cons (PureV.st1 _) (st1_cons (PureV.st1 _) (st1_cons (PureV.st1 _) (st1_cons (PureV.st1 _) (st1_cons (BytV.st1 _) (st1_cons (PureV.st1 _) (st1_cons (PureV.st1 _) (st1_cons (BytV.st1 _) (st1_cons (PureV.st1 _) (st1_cons (PureV.st1 _) (st1_cons (PureV.st1 _) (st1_cons (PureV.st1 _) (st1_cons (PureV.st1 _) (st1_cons (PureV.st1 _) (st1_nil)))))))))))))))))))))))))))) (RL.st2 (by rw [hRs]; exact st2_cons (PureV.st2 _ _ _) (st2_cons (PureV.st2 _ _ _) (st2_cons (PureV.st2 _ _ _) (st2_cons (PureV.st2 _ _ _) (st2_cons (PureV.st2 _ _ _) (st2_cons (PureV.st2 _ _ _) (st2_cons (PureV.st2 _ _ _) (st2_cons (PureV.st2 _ _ _) (st2_cons (PureV.st2 _ _ _) (st2_cons (PureV.st2 _ _ _) (st2_cons (PureV.st2 _ _ _) (st2_cons (PureV.st2 _ _ _) (st2_cons (PureV.st2 _ _ _) (st2_cons (PureV.st2 _ _ _) (st2_cons (PureV.st2 _ _ _) (st2_cons (PureV.st2 _ _ _) (st2_skip (st2_cons (PureV.st2 _ _ _) (st2_cons (PureV.st2 _ _ _) (st2_skip (st2_cons (PureV.st2 _ _ _) (st2_cons (PureV.st2 _ _ _) (st2_cons (PureV.st2 _ _ _) (st2_cons (PureV.st2 _ _ _) (st2_cons (PureV.st2 _ _ _) (st2_cons (PureV.st2 _ _ _) (st2_nil)))))))))))))))))))))))))))) ?_ ?_ ?_
  · intro i o d hi hd
    have hmem := List.mem_of_getElem? hi
    simp only [List.mem_cons, List.not_mem_nil, or_false] at hmem
    rcases hmem with rfl | rfl | rfl | rfl | rfl | rfl | rfl | rfl | rfl | rfl | rfl | rfl | rfl | rfl | rfl | rfl | rfl | rfl | rfl | rfl | rfl | rfl | rfl | rfl | rfl | rfl <;> simp at hd <;> (subst hd; simp)
  · refine rel_start (Φ := Hop _ _ _ _ _ _ _) ?_
    refine rel_cons (Φ := Hop _ _ _ _ _ _ _) (k := 0) ?_ ?_
    · intro fa fw hfB hfN hfk hft
      have k11 : fa.eval (.tmp 11) = .bool false := hft 11 (mem_looks (by kernel_rfl)) (noneed (by kernel_rfl))
      rw [hRs]
      refine hop_plain rfl ?_
      refine out_move rfl ?_
      exact ⟨k11, Below.refl _ _⟩
    refine rel_cons (Φ := Hop _ _ _ _ _ _ _) (k := 1) ?_ ?_
    · intro fa fw hfB hfN hfk hft
      have k9 : fa.eval (.tmp 9) = .string X := hft 9 (mem_looks (by kernel_rfl)) (noneed (by kernel_rfl))
      rw [hRs]
      refine hop_plain rfl ?_
      refine out_move rfl ?_
      exact ⟨k9, Below.refl _ _⟩
    refine rel_cons (Φ := Hop _ _ _ _ _ _ _) (k := 2) ?_ ?_
    · intro fa fw hfB hfN hfk hft
      have k10 : fa.eval (.tmp 10) = .string Y := hft 10 (mem_looks (by kernel_rfl)) (noneed (by kernel_rfl))
      rw [hRs]
      refine hop_plain rfl ?_
      refine out_move rfl ?_
      exact ⟨k10, Below.refl _ _⟩
    refine rel_cons (Φ := Hop _ _ _ _ _ _ _) (k := 3) ?_ ?_
    · intro fa fw hfB hfN hfk hft
      have k47 : fa.eval (.tmp 47) = (.string X) := by have := hfk 1 (mem_needs (by kernel_rfl)) _ rfl; rw [hRs] at this; exact this
      have k48 : fa.eval (.tmp 48) = (.string Y) := by have := hfk 2 (mem_needs (by kernel_rfl)) _ rfl; rw [hRs] at this; exact this
      rw [hRs]
      refine hop_plain rfl ?_
      have kc : ∀ v, fa.eval (.const v) = v := fun _ => rfl
      generalize fa.eval = ρ at *
      exact out_run (v := .bool false) (w' := fw) (by simp [execOp, kc, k47, k48, hxy, go_sem]) ⟨rfl, Below.refl _ _⟩
    refine rel_cons (Φ := Hop _ _ _ _ _ _ _) (k := 4) ?_ ?_
    · intro fa fw hfB hfN hfk hft
      have k46 : fa.eval (.tmp 46) = (.bool false) := by have := hfk 0 (mem_needs (by kernel_rfl)) _ rfl; rw [hRs] at this; exact this
      have k49 : fa.eval (.tmp 49) = (.bool false) := by have := hfk 3 (mem_needs (by kernel_rfl)) _ rfl; rw [hRs] at this; exact this
      rw [hRs]
      refine hop_plain rfl ?_
      have kc : ∀ v, fa.eval (.const v) = v := fun _ => rfl
      generalize fa.eval = ρ at *
      exact out_run (v := .bool true) (w' := fw) (by simp [execOp, kc, k46, k49, go_sem]) ⟨rfl, Below.refl _ _⟩
    refine rel_cons (Φ := Hop _ _ _ _ _ _ _) (k := 5) ?_ ?_
    · intro fa fw hfB hfN hfk hft
      have k50 : fa.eval (.tmp 50) = (.bool true) := by have := hfk 4 (mem_needs (by kernel_rfl)) _ rfl; rw [hRs] at this; exact this
      rw [hRs]
      refine hop_plain rfl ?_
      refine out_move rfl ?_
      exact ⟨k50, Below.refl _ _⟩
    refine rel_cons (Φ := Hop _ _ _ _ _ _ _) (k := 6) ?_ ?_
    · intro fa fw hfB hfN hfk hft
      have k0 : fa.eval (.tmp 0) = .string p := hft 0 (mem_looks (by kernel_rfl)) (noneed (by kernel_rfl))
      have k51 : fa.eval (.tmp 51) = (.bool true) := by have := hfk 5 (mem_needs (by kernel_rfl)) _ rfl; rw [hRs] at this; exact this
      rw [hRs]
      have kg := get_bool (show fa.tmps.getD 51 undef = .bool true from k51)
      refine hop_guard rfl (by simp [yielded, kg]) ?_
      refine out_move rfl ?_
      exact ⟨k0, Below.refl _ _⟩
    refine rel_cons (Φ := Hop _ _ _ _ _ _ _) (k := 7) ?_ ?_
    · intro fa fw hfB hfN hfk hft
      have k1 : fa.eval (.tmp 1) = .slice pa na ca := hft 1 (mem_looks (by kernel_rfl)) (noneed (by kernel_rfl))
      have k51 : fa.eval (.tmp 51) = (.bool true) := by have := hfk 5 (mem_needs (by kernel_rfl)) _ rfl; rw [hRs] at this; exact this
      rw [hRs]
      have kg := get_bool (show fa.tmps.getD 51 undef = .bool true from k51)
      refine hop_guard rfl (by simp [yielded, kg]) ?_
      refine out_move rfl ?_
      exact ⟨k1, Below.refl _ _⟩
    refine rel_cons (Φ := Hop _ _ _ _ _ _ _) (k := 8) ?_ ?_
    · intro fa fw hfB hfN hfk hft
      have k52 : fa.eval (.tmp 52) = (.string p) := by have := hfk 6 (mem_needs (by kernel_rfl)) _ rfl; rw [hRs] at this; exact this
      have k53 : fa.eval (.tmp 53) = (.slice pa na ca) := by have := hfk 7 (mem_needs (by kernel_rfl)) _ rfl; rw [hRs] at this; exact this
      have k51 : fa.eval (.tmp 51) = (.bool true) := by have := hfk 5 (mem_needs (by kernel_rfl)) _ rfl; rw [hRs] at this; exact this
      rw [hRs]
      have kg := get_bool (show fa.tmps.getD 51 undef = .bool true from k51)
      refine hop_guard rfl (by simp [yielded, kg]) ?_
      have kf : fa.eval (.func 12) = .func (.func 12) #[] #[] := rfl
      refine out_call (f := 12) (args := #[.string p, .slice pa na ca]) (by generalize fa.eval = ρ at *; simp [execOp, k52, k53, kf, go_sem]) ?_
      refine (HS1.out fw ((Below.refl _ _).drew.trans hfB)).mono ?_
      rintro e w' ⟨rfl, h⟩
      exact ⟨_, rfl, rfl, h⟩
    refine rel_cons (Φ := Hop _ _ _ _ _ _ _) (k := 9) ?_ ?_
    · intro fa fw hfB hfN hfk hft
      have k2 : fa.eval (.tmp 2) = .string q := hft 2 (mem_looks (by kernel_rfl)) (noneed (by kernel_rfl))
      have k51 : fa.eval (.tmp 51) = (.bool true) := by have := hfk 5 (mem_needs (by kernel_rfl)) _ rfl; rw [hRs] at this; exact this
      rw [hRs]
      have kg := get_bool (show fa.tmps.getD 51 undef = .bool true from k51)
      refine hop_guard rfl (by simp [yielded, kg]) ?_
      refine out_move rfl ?_
      exact ⟨k2, Below.refl _ _⟩
    refine rel_cons (Φ := Hop _ _ _ _ _ _ _) (k := 10) ?_ ?_
    · intro fa fw hfB hfN hfk hft
      have k3 : fa.eval (.tmp 3) = .slice pb nb cb := hft 3 (mem_looks (by kernel_rfl)) (noneed (by kernel_rfl))
      have k51 : fa.eval (.tmp 51) = (.bool true) := by have := hfk 5 (mem_needs (by kernel_rfl)) _ rfl; rw [hRs] at this; exact this
      rw [hRs]
      have kg := get_bool (show fa.tmps.getD 51 undef = .bool true from k51)
      refine hop_guard rfl (by simp [yielded, kg]) ?_
      refine out_move rfl ?_
      exact ⟨k3, Below.refl _ _⟩
    refine rel_cons (Φ := Hop _ _ _ _ _ _ _) (k := 11) ?_ ?_
    · intro fa fw hfB hfN hfk hft
      have k55 : fa.eval (.tmp 55) = (.string q) := by have := hfk 9 (mem_needs (by kernel_rfl)) _ rfl; rw [hRs] at this; exact this
      have k56 : fa.eval (.tmp 56) = (.slice pb nb cb) := by have := hfk 10 (mem_needs (by kernel_rfl)) _ rfl; rw [hRs] at this; exact this
      have k51 : fa.eval (.tmp 51) = (.bool true) := by have := hfk 5 (mem_needs (by kernel_rfl)) _ rfl; rw [hRs] at this; exact this
      rw [hRs]
      have kg := get_bool (show fa.tmps.getD 51 undef = .bool true from k51)
      refine hop_guard rfl (by simp [yielded, kg]) ?_
      have kf : fa.eval (.func 12) = .func (.func 12) #[] #[] := rfl
      refine out_call (f := 12) (args := #[.string q, .slice pb nb cb]) (by generalize fa.eval = ρ at *; simp [execOp, k55, k56, kf, go_sem]) ?_
      refine (HS2.out fw ((Below.refl _ _).drew.trans hfB)).mono ?_
      rintro e w' ⟨rfl, h⟩
      exact ⟨_, rfl, rfl, h⟩
    refine rel_cons (Φ := Hop _ _ _ _ _ _ _) (k := 12) ?_ ?_
    · intro fa fw hfB hfN hfk hft
      have k54 : fa.eval (.tmp 54) = (.agg (ints .u8 DX)) := by have := hfk 8 (mem_needs (by kernel_rfl)) _ rfl; rw [hRs] at this; exact this
      have k57 : fa.eval (.tmp 57) = (.agg (ints .u8 DY)) := by have := hfk 11 (mem_needs (by kernel_rfl)) _ rfl; rw [hRs] at this; exact this
      have k51 : fa.eval (.tmp 51) = (.bool true) := by have := hfk 5 (mem_needs (by kernel_rfl)) _ rfl; rw [hRs] at this; exact this
      rw [hRs]
      have kg := get_bool (show fa.tmps.getD 51 undef = .bool true from k51)
      refine hop_guard rfl (by simp [yielded, kg]) ?_
      have kc : ∀ v, fa.eval (.const v) = v := fun _ => rfl
      generalize fa.eval = ρ at *
      exact out_run (v := .bool c) (w' := fw) (by simp [execOp, kc, k54, k57, H24.out fw, go_sem]) ⟨rfl, Below.refl _ _⟩
    refine rel_cons (Φ := Hop _ _ _ _ _ _ _) (k := 13) ?_ ?_
    · intro fa fw hfB hfN hfk hft
      have k11 : fa.eval (.tmp 11) = .bool false := hft 11 (mem_looks (by kernel_rfl)) (noneed (by kernel_rfl))
      have k51 : fa.eval (.tmp 51) = (.bool true) := by have := hfk 5 (mem_needs (by kernel_rfl)) _ rfl; rw [hRs] at this; exact this
      rw [hRs]
      have kg := get_bool (show fa.tmps.getD 51 undef = .bool true from k51)
      refine hop_guard rfl (by simp [yielded, kg]) ?_
      refine out_move rfl ?_
      exact ⟨k11, Below.refl _ _⟩
    refine rel_cons (Φ := Hop _ _ _ _ _ _ _) (k := 14) ?_ ?_
    · intro fa fw hfB hfN hfk hft
      have k59 : fa.eval (.tmp 59) = (.bool false) := by have := hfk 13 (mem_needs (by kernel_rfl)) _ rfl; rw [hRs] at this; exact this
      have k51 : fa.eval (.tmp 51) = (.bool true) := by have := hfk 5 (mem_needs (by kernel_rfl)) _ rfl; rw [hRs] at this; exact this
      rw [hRs]
      have kg := get_bool (show fa.tmps.getD 51 undef = .bool true from k51)
      refine hop_guard rfl (by simp [yielded, kg]) ?_
      refine out_move rfl ?_
      exact ⟨k59, Below.refl _ _⟩
    refine rel_cons (Φ := Hop _ _ _ _ _ _ _) (k := 15) ?_ ?_
    · intro fa fw hfB hfN hfk hft
      have k9 : fa.eval (.tmp 9) = .string X := hft 9 (mem_looks (by kernel_rfl)) (noneed (by kernel_rfl))
      have k60 : fa.eval (.tmp 60) = (.bool false) := by have := hfk 14 (mem_needs (by kernel_rfl)) _ rfl; rw [hRs] at this; exact this
      rw [hRs]
      have kg := get_bool (show fa.tmps.getD 60 undef = .bool false from k60)
      refine hop_guard rfl (by simp [yielded, kg]) ?_
      refine out_move rfl ?_
      exact ⟨k9, Below.refl _ _⟩
    refine rel_cons (Φ := Hop _ _ _ _ _ _ _) (k := 16) ?_ ?_
    · intro fa fw hfB hfN hfk hft
      have k61 : fa.eval (.tmp 61) = (.string X) := by have := hfk 15 (mem_needs (by kernel_rfl)) _ rfl; rw [hRs] at this; exact this
      have k60 : fa.eval (.tmp 60) = (.bool false) := by have := hfk 14 (mem_needs (by kernel_rfl)) _ rfl; rw [hRs] at this; exact this
      rw [hRs]
      have kg := get_bool (show fa.tmps.getD 60 undef = .bool false from k60)
      refine hop_guard rfl (by simp [yielded, kg]) ?_
      obtain ⟨v', w', hcv, hv, hB⟩ := HCX.out fw
      rw [← k61] at hcv
      exact out_run (v := v') (w' := w') (by unfold execOp; simp only [Sem.run_bind, hcv, Result.andThen_ok, Sem.run_pure]) ⟨hv, hB⟩
    refine rel_cons (Φ := Hop _ _ _ _ _ _ _) (k := 17) ?_ ?_
    · intro fa fw hfB hfN hfk hft
      have k62 : (BytV LX) (fa.eval (.tmp 62)) fw := by have := hfk 16 (mem_needs (by kernel_rfl)) _ rfl; rw [hRs] at this; exact this
      have k60 : fa.eval (.tmp 60) = (.bool false) := by have := hfk 14 (mem_needs (by kernel_rfl)) _ rfl; rw [hRs] at this; exact this
      rw [hRs]
      have kg := get_bool (show fa.tmps.getD 60 undef = .bool false from k60)
      refine hop_guard rfl (by simp [yielded, kg]) ?_
      have kf : fa.eval (.func 10) = .func (.func 10) #[] #[] := rfl
      refine out_call (f := 10) (args := #[fa.eval (.tmp 62)]) (by generalize fa.eval = ρ at *; simp [execOp, kf, go_sem]) ?_
      refine (HDX.out _ fw k62).mono ?_
      rintro e w' ⟨rfl, h⟩
      exact ⟨_, rfl, rfl, h⟩
    refine rel_cons (Φ := Hop _ _ _ _ _ _ _) (k := 18) ?_ ?_
    · intro fa fw hfB hfN hfk hft
      have k10 : fa.eval (.tmp 10) = .string Y := hft 10 (mem_looks (by kernel_rfl)) (noneed (by kernel_rfl))
      have k60 : fa.eval (.tmp 60) = (.bool false) := by have := hfk 14 (mem_needs (by kernel_rfl)) _ rfl; rw [hRs] at this; exact this
      rw [hRs]
      have kg := get_bool (show fa.tmps.getD 60 undef = .bool false from k60)
      refine hop_guard rfl (by simp [yielded, kg]) ?_
      refine out_move rfl ?_
      exact ⟨k10, Below.refl _ _⟩
    refine rel_cons (Φ := Hop _ _ _ _ _ _ _) (k := 19) ?_ ?_
    · intro fa fw hfB hfN hfk hft
      have k64 : fa.eval (.tmp 64) = (.string Y) := by have := hfk 18 (mem_needs (by kernel_rfl)) _ rfl; rw [hRs] at this; exact this
      have k60 : fa.eval (.tmp 60) = (.bool false) := by have := hfk 14 (mem_needs (by kernel_rfl)) _ rfl; rw [hRs] at this; exact this
      rw [hRs]
      have kg := get_bool (show fa.tmps.getD 60 undef = .bool false from k60)
      refine hop_guard rfl (by simp [yielded, kg]) ?_
      obtain ⟨v', w', hcv, hv, hB⟩ := HCY.out fw
      rw [← k64] at hcv
      exact out_run (v := v') (w' := w') (by unfold execOp; simp only [Sem.run_bind, hcv, Result.andThen_ok, Sem.run_pure]) ⟨hv, hB⟩
    refine rel_cons (Φ := Hop _ _ _ _ _ _ _) (k := 20) ?_ ?_
    · intro fa fw hfB hfN hfk hft
      have k65 : (BytV LY) (fa.eval (.tmp 65)) fw := by have := hfk 19 (mem_needs (by kernel_rfl)) _ rfl; rw [hRs] at this; exact this
      have k60 : fa.eval (.tmp 60) = (.bool false) := by have := hfk 14 (mem_needs (by kernel_rfl)) _ rfl; rw [hRs] at this; exact this
      rw [hRs]
      have kg := get_bool (show fa.tmps.getD 60 undef = .bool false from k60)
      refine hop_guard rfl (by simp [yielded, kg]) ?_
      have kf : fa.eval (.func 10) = .func (.func 10) #[] #[] := rfl
      refine out_call (f := 10) (args := #[fa.eval (.tmp 65)]) (by generalize fa.eval = ρ at *; simp [execOp, kf, go_sem]) ?_
      refine (HDY.out _ fw k65).mono ?_
      rintro e w' ⟨rfl, h⟩
      exact ⟨_, rfl, rfl, h⟩
    refine rel_cons (Φ := Hop _ _ _ _ _ _ _) (k := 21) ?_ ?_
    · intro fa fw hfB hfN hfk hft
      have k63 : fa.eval (.tmp 63) = (.agg (ints .u8 DX)) := by have := hfk 17 (mem_needs (by kernel_rfl)) _ rfl; rw [hRs] at this; exact this
      have k66 : fa.eval (.tmp 66) = (.agg (ints .u8 DY)) := by have := hfk 20 (mem_needs (by kernel_rfl)) _ rfl; rw [hRs] at this; exact this
      have k60 : fa.eval (.tmp 60) = (.bool false) := by have := hfk 14 (mem_needs (by kernel_rfl)) _ rfl; rw [hRs] at this; exact this
      rw [hRs]
      have kg := get_bool (show fa.tmps.getD 60 undef = .bool false from k60)
      refine hop_guard rfl (by simp [yielded, kg]) ?_
      have kc : ∀ v, fa.eval (.const v) = v := fun _ => rfl
      generalize fa.eval = ρ at *
      exact out_run (v := .bool c) (w' := fw) (by simp [execOp, kc, k63, k66, H23.out fw, go_sem]) ⟨rfl, Below.refl _ _⟩
    refine rel_cons (Φ := Hop _ _ _ _ _ _ _) (k := 22) ?_ ?_
    · intro fa fw hfB hfN hfk hft
      have k60 : fa.eval (.tmp 60) = (.bool false) := by have := hfk 14 (mem_needs (by kernel_rfl)) _ rfl; rw [hRs] at this; exact this
      have k67 : fa.eval (.tmp 67) = (.bool c) := by have := hfk 21 (mem_needs (by kernel_rfl)) _ rfl; rw [hRs] at this; exact this
      have k51 : fa.eval (.tmp 51) = (.bool true) := by have := hfk 5 (mem_needs (by kernel_rfl)) _ rfl; rw [hRs] at this; exact this
      rw [hRs]
      have kg := get_bool (show fa.tmps.getD 51 undef = .bool true from k51)
      refine hop_guard rfl (by simp [yielded, kg]) ?_
      have kc : ∀ v, fa.eval (.const v) = v := fun _ => rfl
      generalize fa.eval = ρ at *
      exact out_run (v := .bool c) (w' := fw) (by simp [execOp, kc, k60, k67, go_sem]) ⟨rfl, Below.refl _ _⟩
    refine rel_cons (Φ := Hop _ _ _ _ _ _ _) (k := 23) ?_ ?_
    · intro fa fw hfB hfN hfk hft
      have k58 : fa.eval (.tmp 58) = (.bool c) := by have := hfk 12 (mem_needs (by kernel_rfl)) _ rfl; rw [hRs] at this; exact this
      have k68 : fa.eval (.tmp 68) = (.bool c) := by have := hfk 22 (mem_needs (by kernel_rfl)) _ rfl; rw [hRs] at this; exact this
      have k51 : fa.eval (.tmp 51) = (.bool true) := by have := hfk 5 (mem_needs (by kernel_rfl)) _ rfl; rw [hRs] at this; exact this
      rw [hRs]
      have kg := get_bool (show fa.tmps.getD 51 undef = .bool true from k51)
      refine hop_guard rfl (by simp [yielded, kg]) ?_
      have kc : ∀ v, fa.eval (.const v) = v := fun _ => rfl
      generalize fa.eval = ρ at *
      exact out_run (v := .bool true) (w' := fw) (by simp [execOp, kc, k58, k68, go_sem]) ⟨rfl, Below.refl _ _⟩
    refine rel_cons (Φ := Hop _ _ _ _ _ _ _) (k := 24) ?_ ?_
    · intro fa fw hfB hfN hfk hft
      have k51 : fa.eval (.tmp 51) = (.bool true) := by have := hfk 5 (mem_needs (by kernel_rfl)) _ rfl; rw [hRs] at this; exact this
      have k69 : fa.eval (.tmp 69) = (.bool true) := by have := hfk 23 (mem_needs (by kernel_rfl)) _ rfl; rw [hRs] at this; exact this
      rw [hRs]
      refine hop_plain rfl ?_
      have kc : ∀ v, fa.eval (.const v) = v := fun _ => rfl
      generalize fa.eval = ρ at *
      exact out_run (v := .bool true) (w' := fw) (by simp [execOp, kc, k51, k69, go_sem]) ⟨rfl, Below.refl _ _⟩
    refine rel_cons (Φ := Hop _ _ _ _ _ _ _) (k := 25) ?_ ?_
    · intro fa fw hfB hfN hfk hft
      have k70 : fa.eval (.tmp 70) = (.bool true) := by have := hfk 24 (mem_needs (by kernel_rfl)) _ rfl; rw [hRs] at this; exact this
      rw [hRs]
      refine hop_plain rfl ?_
      refine out_assign rfl ?_
      exact ⟨k70, Below.refl _ _⟩
    exact rel_nil
  · intro fa fw hfB hfy hff hfs hfd
    rw [hRs] at hfy
    have k8 : fa.eval (.tmp 8) = (.bool true) := hfy 25 _ rfl (unkilled (by decide))
    have HBf := Lib.hid (hb5.drew.trans (hfB.mono hb5.size))
    have e := rel_frame [46, 47, 48, 49, 50, 51, 52, 53, 54, 55, 56, 57, 58, 59, 60, 61, 62, 63, 64, 65, 66, 67, 68, 69, 70, 8] (by kernel_rfl) hff hfs hfd
    simp only [List.foldl] at e
    rw [show fa.tmps.getD 8 undef = .bool true from k8] at e
    clear hfy hff hfs hfd k8
    generalize fa.tmps.getD 46 undef = x46 at e
    generalize fa.tmps.getD 47 undef = x47 at e
    generalize fa.tmps.getD 48 undef = x48 at e
    generalize fa.tmps.getD 49 undef = x49 at e
    generalize fa.tmps.getD 50 undef = x50 at e
    generalize fa.tmps.getD 51 undef = x51 at e
    generalize fa.tmps.getD 52 undef = x52 at e
    generalize fa.tmps.getD 53 undef = x53 at e
    generalize fa.tmps.getD 54 undef = x54 at e
    generalize fa.tmps.getD 55 undef = x55 at e
    generalize fa.tmps.getD 56 undef = x56 at e
    generalize fa.tmps.getD 57 undef = x57 at e
    generalize fa.tmps.getD 58 undef = x58 at e
    generalize fa.tmps.getD 59 undef = x59 at e
    generalize fa.tmps.getD 60 undef = x60 at e
    generalize fa.tmps.getD 61 undef = x61 at e
    generalize fa.tmps.getD 62 undef = x62 at e
    generalize fa.tmps.getD 63 undef = x63 at e
    generalize fa.tmps.getD 64 undef = x64 at e
    generalize fa.tmps.getD 65 undef = x65 at e
    generalize fa.tmps.getD 66 undef = x66 at e
    generalize fa.tmps.getD 67 undef = x67 at e
    generalize fa.tmps.getD 68 undef = x68 at e
    generalize fa.tmps.getD 69 undef = x69 at e
    generalize fa.tmps.getD 70 undef = x70 at e
    simp [List.setIfInBounds_toArray, List.set_cons_succ, List.set_cons_zero] at e
    subst e
    go_wp2_with fail
    go_ret
    exact ⟨rfl, HBf.out⟩

set_option maxRecDepth 100000 in
set_option maxHeartbeats 2000000 in
theorem parts_list (p q : ByteArray) (v u : Value) (a b : List ByteArray) (w : World) (hpq : p.size + q.size ≤ 1024) (hv : Strs w v a) (hu : Strs w u b) (hza : ∀ s ∈ a, s.size ≤ 140737488351232) (hzb : ∀ s ∈ b, s.size ≤ 140737488351232) (hK : KeysAt w)
    (hga : isGreat a = false) (hgb : isGreat b = false) (hcase : p = q ∧ a ≠ b) : Calls Tryd.prog 6 #[.string p, v, .string q, u] w (LawEnd w) := by
  obtain ⟨hta, hla⟩ := not_great hga
  obtain ⟨htb, hlb⟩ := not_great hgb
  have HA := Lib.hid (alive_any w hK)
  have HG1 := Lib.hid (fun w1 (hB : Below w.heap.size w w1) => great_any v a w1 (hv.below hB) hza)
  have HG2 := Lib.hid (fun w1 (hB : Below w.heap.size w w1) => great_any u b w1 (hu.below hB) hzb)
  rw [hga] at HG1
  rw [hgb] at HG2
  have hta' : total (p :: a) ≤ 9216 := by simp [total]; omega
  have htb' : total (q :: b) ≤ 9216 := by simp [total]; omega
  have hjx := joinB_size (p :: a)
  have hjy := joinB_size (q :: b)
  simp only [List.length_cons] at hjx hjy
  have HV1 := Lib.hid (fun w1 (hB : Below w.heap.size w w1) => hv.below hB)
  have HV2 := Lib.hid (fun w1 (hB : Below w.heap.size w w1) => hu.below hB)
  have HJ1 := Lib.hid (fun u w1 (hu : Strs w1 u (p :: a)) => refJoin_any u (p :: a) w1 hu (by omega) (by simp; omega))
  have HJ2 := Lib.hid (fun v w1 (hv : Strs w1 v (q :: b)) => refJoin_any v (q :: b) w1 hv (by omega) (by simp; omega))
  have HSm := Lib.hid (fun w1 (hB : Below w.heap.size w w1) => same_any v u a b w1 (hv.below hB) (hu.below hB) (by omega) (by omega))
  have HS1' := Lib.hid (fun w1 (hB : Below w.heap.size w w1) => sum_any p v a w1 (hK.below hK.1 hB) (hv.below hB) (by omega) (by omega))
  have HS2' := Lib.hid (fun w1 (hB : Below w.heap.size w w1) => sum_any q u b w1 (hK.below hK.1 hB) (hu.below hB) (by omega) (by omega))
  have HCX := Lib.hid (fun w1 => conv_bytes (joinB (p :: a)) w1 (by omega))
  have HCY := Lib.hid (fun w1 => conv_bytes (joinB (q :: b)) w1 (by omega))
  have HDX := Lib.hid (fun v w1 (hv : BytsN w1 v (bytesL (joinB (p :: a)))) => dof_any v _ w1 hv (bytesL_small _) (by rw [bytesL_len]; omega))
  have HDY := Lib.hid (fun v w1 (hv : BytsN w1 v (bytesL (joinB (q :: b)))) => dof_any v _ w1 hv (bytesL_small _) (by rw [bytesL_len]; omega))
  have H24 := Lib.hid (fun w => eq24 (shaL (bytesL (joinB (p :: a)))) (shaL (bytesL (joinB (q :: b)))) (shaL_len _) (shaL_len _) (shaL_small _) (shaL_small _) w)
  have H23 := Lib.hid (fun w => eq23 (shaL (bytesL (joinB (p :: a)))) (shaL (bytesL (joinB (q :: b)))) (shaL_len _) (shaL_len _) (shaL_small _) (shaL_small _) w)
  have Hone := Lib.hid (parts_one p q a b hpq hga hgb)
  obtain ⟨pa, ca, rfl⟩ := hv.shape
  obtain ⟨pb, cb, rfl⟩ := hu.shape
  obtain ⟨rfl, hab⟩ := hcase
  have Hab := Lib.hid (by simpa using hab : decide (a = b) = false)
  have hpe : (p.toList == p.toList) = true := by simp
  have hxy := text_ne (fun h => hab (Hone.out h).2)
  obtain ⟨na, hna⟩ : ∃ na, na = a.length := ⟨_, rfl⟩
  obtain ⟨nb, hnb⟩ : ∃ nb, nb = b.length := ⟨_, rfl⟩
  rw [← hna] at HG1 HV1 HSm HS1' hla
  rw [← hnb] at HG2 HV2 HSm HS2' hlb
  rw [← hna, ← hnb]
  have Hna := Lib.hid hna
  have Hnb := Lib.hid hnb
  have Hpe := Lib.hid hpe
  clear hK hv hu hza hzb hga hgb Hone hta htb hta' htb' hjx hjy hna hpe hnb
  have Hxy := Lib.hid hxy
  clear hxy hab
  generalize joinB (p :: a) = X at *
  generalize joinB (p :: b) = Y at *
  generalize bytesL X = LX at *
  generalize bytesL Y = LY at *
  generalize shaL LX = DX at *
  generalize shaL LY = DY at *
  generalize decide (DX = DY) = c at *
  have hI : ¬ (1024 : Int) < (p.size : Int) + p.size := by omega
  go_enter Tryd.func6, Tryd.ntmps6
  go_wp2_with fail
  refine HA.out.mono ?_
  rintro e w1 ⟨rfl, hB1⟩
  go_wp2_with fail
  refine (HG1.out _ hB1).mono ?_
  rintro e w2 ⟨rfl, rfl⟩
  go_wp2_with fail
  refine (HG2.out _ hB1).mono ?_
  rintro e w2 ⟨rfl, rfl⟩
  go_wp2_with (at_builtin; refine wpList_append_strs rfl (.tmp 29) (.tmp 30) rfl w.heap.size _ [p] rfl (own_text w1 w.heap.size p hB1.size) _ a (HV1.out _ (hB1.alloc hB1.size _)) rfl (by have := Hna.out; simp; omega) (by have := hB1.size; simp; omega) ?_; intro v2 w2 hown2 hgrow2; have hb2 := (hB1.alloc hB1.size _).grown hgrow2 (by have := hB1.size; simp; omega) (fun k hk => ((own_text w1 w.heap.size p hB1.size).lt k hk).1); have hs2 := Strs.ofOwn hown2; clear hown2 hgrow2 hB1)
  refine (HJ1.out _ w2 hs2).mono ?_
  rintro e w3 ⟨rfl, hB3⟩
  have hb3 := hb2.trans (hB3.mono hb2.size)
  clear hb2 hs2 hB3
  go_wp2_with (at_builtin; refine wpList_append_strs rfl (.tmp 34) (.tmp 35) rfl w.heap.size _ [p] rfl (own_text w3 w.heap.size p hb3.size) _ b (HV2.out _ (hb3.alloc hb3.size _)) rfl (by have := Hnb.out; simp; omega) (by have := hb3.size; simp; omega) ?_; intro v4 w4 hown4 hgrow4; have hb4 := (hb3.alloc hb3.size _).grown hgrow4 (by have := hb3.size; simp; omega) (fun k hk => ((own_text w3 w.heap.size p hb3.size).lt k hk).1); have hs4 := Strs.ofOwn hown4; clear hown4 hgrow4 hb3)
  refine (HJ2.out _ w4 hs4).mono ?_
  rintro e w5 ⟨rfl, hB5⟩
  have hb5 := hb4.trans (hB5.mono hb4.size)
  clear hb4 hs4 hB5
  have hpe := Hpe.out
  go_wp2_with fail
  clear hpe
  refine (HSm.out _ hb5).mono ?_
  rintro e w6 ⟨rfl, k, rfl⟩
  have hb6 := below_drewN hb5 k
  obtain ⟨w5', hw5⟩ : ∃ w', w' = w5.drewN k := ⟨_, rfl⟩
  rw [← hw5] at hb6 ⊢
  clear hb5 hw5
  rw [Hab.out]
  go_wp2_with fail
  have HS1 := Lib.hid (fun w1 (h1 : Below w5'.heap.size w5' w1) => HS1'.out w1 (hb6.trans (h1.mono hb6.size)))
  have HS2 := Lib.hid (fun w1 (h1 : Below w5'.heap.size w5' w1) => HS2'.out w1 (hb6.trans (h1.mono hb6.size)))
  have hxy := Hxy.out
  have hRL : ∃ Rs : List (Value → World → Prop), Rs = [PureV (.bool false),
      PureV (.string X),
      PureV (.string Y),
      PureV (.bool false),
      PureV (.bool true),
      PureV (.bool true),
      PureV (.string p),
      PureV (.slice pa na ca),
      PureV (.agg (ints .u8 DX)),
      PureV (.string p),
      PureV (.slice pb nb cb),
      PureV (.agg (ints .u8 DY)),
      PureV (.bool c),
      PureV (.bool false),
      PureV (.bool false),
      PureV (.string X),
      BytV LX,
      PureV (.agg (ints .u8 DX)),
      PureV (.string Y),
      BytV LY,
      PureV (.agg (ints .u8 DY)),
      PureV (.bool c),
      PureV (.bool c),
      PureV (.bool true),
      PureV (.bool true),
      PureV (.bool true)] := ⟨_, rfl⟩
  obtain ⟨Rs, hRs⟩ := hRL
  refine wp_region_rel (RL Rs) [2, 2, 2, 2, 2, 2, 2, 2, 2, 2, 2, 2, 2, 2, 2, 2, 1, 2, 2, 1, 2, 2, 2, 2, 2, 2] [1, 1, 1, 1, 1, 1, 1, 1, 1, 1, 1, 1, 1, 1, 1, 1, 1, 1, 1, 1, 1, 1, 1, 1, 1, 1] [] (by kernel_rfl) (by kernel_rfl) (RL.st1 (by rw [hRs]; exact st1_cons (PureV.st1 _) (st1_cons (PureV.st1 _) (st1_cons (PureV.st1 _) (st1_cons (PureV.st1 _) (st1_cons (PureV.st1 _) (st1_cons (PureV.st1 _) (st1_cons (PureV.st1 _) (st1_cons (PureV.st1 _) (st1_cons (PureV.st1 _) (st1_cons (PureV.st1 _) (st1_cons (PureV.st1 _) (st1_cons (PureV.st1 _) (st1_cons (PureV.st1 _) (st1_cons (PureV.st1 _) (st1_cons (PureV.st1 _) (st1_cons (PureV.st1 _) (st1_cons (BytV.st1 _) (st1_cons (PureV.st1 _) (st1_cons (PureV.st1 _) (st1_cons (BytV.st1 _) (st1_cons (PureV.st1 _) (st1_cons (PureV.st1 _) (st1_cons (PureV.st1 _) (st1_cons (PureV.st1 _) (st1_cons (PureV.st1 _) (st1_cons (PureV.st1 _) (st1_nil)))))))))))))))))))))))))))) (RL.st2 (by rw [hRs]; exact st2_cons (PureV.st2 _ _ _) (st2_cons (PureV.st2 _ _ _) (st2_cons (PureV.st2 _ _ _) (st2_cons (PureV.st2 _ _ _) (st2_cons (PureV.st2 _ _ _) (st2_cons (PureV.st2 _ _ _) (st2_cons (PureV.st2 _ _ _) (st2_cons (PureV.st2 _ _ _) (st2_cons (PureV.st2 _ _ _) (st2_cons (PureV.st2 _ _ _) (st2_cons (PureV.st2 _ _ _) (st2_cons (PureV.st2 _ _ _) (st2_cons (PureV.st2 _ _ _) (st2_cons (PureV.st2 _ _ _) (st2_cons (PureV.st2 _ _ _) (st2_cons (PureV.st2 _ _ _) (st2_skip (st2_cons (PureV.st2 _ _ _) (st2_cons (PureV.st2 _ _ _) (st2_skip (st2_cons (PureV.st2 _ _ _) (st2_cons (PureV.st2 _ _ _) (st2_cons (PureV.st2 _ _ _) (st2_cons (PureV.st2 _ _ _) (st2_cons (PureV.st2 _ _ _) (st2_cons (PureV.st2 _ _ _) (st2_nil)))))))))))))))))))))))))))) ?_ ?_ ?_
  · intro i o d hi hd
    have hmem := List.mem_of_getElem? hi
    simp only [List.mem_cons, List.not_mem_nil, or_false] at hmem
    rcases hmem with rfl | rfl | rfl | rfl | rfl | rfl | rfl | rfl | rfl | rfl | rfl | rfl | rfl | rfl | rfl | rfl | rfl | rfl | rfl | rfl | rfl | rfl | rfl | rfl | rfl | rfl <;> simp at hd <;> (subst hd; simp)
  · refine rel_start (Φ := Hop _ _ _ _ _ _ _) ?_
    refine rel_cons (Φ := Hop _ _ _ _ _ _ _) (k := 0) ?_ ?_
    · intro fa fw hfB hfN hfk hft
      have k11 : fa.eval (.tmp 11) = .bool false := hft 11 (mem_looks (by kernel_rfl)) (noneed (by kernel_rfl))
      rw [hRs]
      refine hop_plain rfl ?_
      refine out_move rfl ?_
      exact ⟨k11, Below.refl _ _⟩
    refine rel_cons (Φ := Hop _ _ _ _ _ _ _) (k := 1) ?_ ?_
    · intro fa fw hfB hfN hfk hft
      have k9 : fa.eval (.tmp 9) = .string X := hft 9 (mem_looks (by kernel_rfl)) (noneed (by kernel_rfl))
      rw [hRs]
      refine hop_plain rfl ?_
      refine out_move rfl ?_
      exact ⟨k9, Below.refl _ _⟩
    refine rel_cons (Φ := Hop _ _ _ _ _ _ _) (k := 2) ?_ ?_
    · intro fa fw hfB hfN hfk hft
      have k10 : fa.eval (.tmp 10) = .string Y := hft 10 (mem_looks (by kernel_rfl)) (noneed (by kernel_rfl))
      rw [hRs]
      refine hop_plain rfl ?_
      refine out_move rfl ?_
      exact ⟨k10, Below.refl _ _⟩
    refine rel_cons (Φ := Hop _ _ _ _ _ _ _) (k := 3) ?_ ?_
    · intro fa fw hfB hfN hfk hft
      have k47 : fa.eval (.tmp 47) = (.string X) := by have := hfk 1 (mem_needs (by kernel_rfl)) _ rfl; rw [hRs] at this; exact this
      have k48 : fa.eval (.tmp 48) = (.string Y) := by have := hfk 2 (mem_needs (by kernel_rfl)) _ rfl; rw [hRs] at this; exact this
      rw [hRs]
      refine hop_plain rfl ?_
      have kc : ∀ v, fa.eval (.const v) = v := fun _ => rfl
      generalize fa.eval = ρ at *
      exact out_run (v := .bool false) (w' := fw) (by simp [execOp, kc, k47, k48, hxy, go_sem]) ⟨rfl, Below.refl _ _⟩
    refine rel_cons (Φ := Hop _ _ _ _ _ _ _) (k := 4) ?_ ?_
    · intro fa fw hfB hfN hfk hft
      have k46 : fa.eval (.tmp 46) = (.bool false) := by have := hfk 0 (mem_needs (by kernel_rfl)) _ rfl; rw [hRs] at this; exact this
      have k49 : fa.eval (.tmp 49) = (.bool false) := by have := hfk 3 (mem_needs (by kernel_rfl)) _ rfl; rw [hRs] at this; exact this
      rw [hRs]
      refine hop_plain rfl ?_
      have kc : ∀ v, fa.eval (.const v) = v := fun _ => rfl
      generalize fa.eval = ρ at *
      exact out_run (v := .bool true) (w' := fw) (by simp [execOp, kc, k46, k49, go_sem]) ⟨rfl, Below.refl _ _⟩
    refine rel_cons (Φ := Hop _ _ _ _ _ _ _) (k := 5) ?_ ?_
    · intro fa fw hfB hfN hfk hft
      have k50 : fa.eval (.tmp 50) = (.bool true) := by have := hfk 4 (mem_needs (by kernel_rfl)) _ rfl; rw [hRs] at this; exact this
      rw [hRs]
      refine hop_plain rfl ?_
      refine out_move rfl ?_
      exact ⟨k50, Below.refl _ _⟩
    refine rel_cons (Φ := Hop _ _ _ _ _ _ _) (k := 6) ?_ ?_
    · intro fa fw hfB hfN hfk hft
      have k0 : fa.eval (.tmp 0) = .string p := hft 0 (mem_looks (by kernel_rfl)) (noneed (by kernel_rfl))
      have k51 : fa.eval (.tmp 51) = (.bool true) := by have := hfk 5 (mem_needs (by kernel_rfl)) _ rfl; rw [hRs] at this; exact this
      rw [hRs]
      have kg := get_bool (show fa.tmps.getD 51 undef = .bool true from k51)
      refine hop_guard rfl (by simp [yielded, kg]) ?_
      refine out_move rfl ?_
      exact ⟨k0, Below.refl _ _⟩
    refine rel_cons (Φ := Hop _ _ _ _ _ _ _) (k := 7) ?_ ?_
    · intro fa fw hfB hfN hfk hft
      have k1 : fa.eval (.tmp 1) = .slice pa na ca := hft 1 (mem_looks (by kernel_rfl)) (noneed (by kernel_rfl))
      have k51 : fa.eval (.tmp 51) = (.bool true) := by have := hfk 5 (mem_needs (by kernel_rfl)) _ rfl; rw [hRs] at this; exact this
      rw [hRs]
      have kg := get_bool (show fa.tmps.getD 51 undef = .bool true from k51)
      refine hop_guard rfl (by simp [yielded, kg]) ?_
      refine out_move rfl ?_
      exact ⟨k1, Below.refl _ _⟩
    refine rel_cons (Φ := Hop _ _ _ _ _ _ _) (k := 8) ?_ ?_
    · intro fa fw hfB hfN hfk hft
      have k52 : fa.eval (.tmp 52) = (.string p) := by have := hfk 6 (mem_needs (by kernel_rfl)) _ rfl; rw [hRs] at this; exact this
      have k53 : fa.eval (.tmp 53) = (.slice pa na ca) := by have := hfk 7 (mem_needs (by kernel_rfl)) _ rfl; rw [hRs] at this; exact this
      have k51 : fa.eval (.tmp 51) = (.bool true) := by have := hfk 5 (mem_needs (by kernel_rfl)) _ rfl; rw [hRs] at this; exact this
      rw [hRs]
      have kg := get_bool (show fa.tmps.getD 51 undef = .bool true from k51)
      refine hop_guard rfl (by simp [yielded, kg]) ?_
      have kf : fa.eval (.func 12) = .func (.func 12) #[] #[] := rfl
      refine out_call (f := 12) (args := #[.string p, .slice pa na ca]) (by generalize fa.eval = ρ at *; simp [execOp, k52, k53, kf, go_sem]) ?_
      refine (HS1.out fw ((Below.refl _ _).drew.trans hfB)).mono ?_
      rintro e w' ⟨rfl, h⟩
      exact ⟨_, rfl, rfl, h⟩
    refine rel_cons (Φ := Hop _ _ _ _ _ _ _) (k := 9) ?_ ?_
    · intro fa fw hfB hfN hfk hft
      have k2 : fa.eval (.tmp 2) = .string p := hft 2 (mem_looks (by kernel_rfl)) (noneed (by kernel_rfl))
      have k51 : fa.eval (.tmp 51) = (.bool true) := by have := hfk 5 (mem_needs (by kernel_rfl)) _ rfl; rw [hRs] at this; exact this
      rw [hRs]
      have kg := get_bool (show fa.tmps.getD 51 undef = .bool true from k51)
      refine hop_guard rfl (by simp [yielded, kg]) ?_
      refine out_move rfl ?_
      exact ⟨k2, Below.refl _ _⟩
    refine rel_cons (Φ := Hop _ _ _ _ _ _ _) (k := 10) ?_ ?_
    · intro fa fw hfB hfN hfk hft
      have k3 : fa.eval (.tmp 3) = .slice pb nb cb := hft 3 (mem_looks (by kernel_rfl)) (noneed (by kernel_rfl))
      have k51 : fa.eval (.tmp 51) = (.bool true) := by have := hfk 5 (mem_needs (by kernel_rfl)) _ rfl; rw [hRs] at this; exact this
      rw [hRs]
      have kg := get_bool (show fa.tmps.getD 51 undef = .bool true from k51)
      refine hop_guard rfl (by simp [yielded, kg]) ?_
      refine out_move rfl ?_
      exact ⟨k3, Below.refl _ _⟩
    refine rel_cons (Φ := Hop _ _ _ _ _ _ _) (k := 11) ?_ ?_
    · intro fa fw hfB hfN hfk hft
      have k55 : fa.eval (.tmp 55) = (.string p) := by have := hfk 9 (mem_needs (by kernel_rfl)) _ rfl; rw [hRs] at this; exact this
      have k56 : fa.eval (.tmp 56) = (.slice pb nb cb) := by have := hfk 10 (mem_needs (by kernel_rfl)) _ rfl; rw [hRs] at this; exact this
      have k51 : fa.eval (.tmp 51) = (.bool true) := by have := hfk 5 (mem_needs (by kernel_rfl)) _ rfl; rw [hRs] at this; exact this
      rw [hRs]
      have kg := get_bool (show fa.tmps.getD 51 undef = .bool true from k51)
      refine hop_guard rfl (by simp [yielded, kg]) ?_
      have kf : fa.eval (.func 12) = .func (.func 12) #[] #[] := rfl
      refine out_call (f := 12) (args := #[.string p, .slice pb nb cb]) (by generalize fa.eval = ρ at *; simp [execOp, k55, k56, kf, go_sem]) ?_
      refine (HS2.out fw ((Below.refl _ _).drew.trans hfB)).mono ?_
      rintro e w' ⟨rfl, h⟩
      exact ⟨_, rfl, rfl, h⟩
    refine rel_cons (Φ := Hop _ _ _ _ _ _ _) (k := 12) ?_ ?_
    · intro fa fw hfB hfN hfk hft
      have k54 : fa.eval (.tmp 54) = (.agg (ints .u8 DX)) := by have := hfk 8 (mem_needs (by kernel_rfl)) _ rfl; rw [hRs] at this; exact this
      have k57 : fa.eval (.tmp 57) = (.agg (ints .u8 DY)) := by have := hfk 11 (mem_needs (by kernel_rfl)) _ rfl; rw [hRs] at this; exact this
      have k51 : fa.eval (.tmp 51) = (.bool true) := by have := hfk 5 (mem_needs (by kernel_rfl)) _ rfl; rw [hRs] at this; exact this
      rw [hRs]
      have kg := get_bool (show fa.tmps.getD 51 undef = .bool true from k51)
      refine hop_guard rfl (by simp [yielded, kg]) ?_
      have kc : ∀ v, fa.eval (.const v) = v := fun _ => rfl
      generalize fa.eval = ρ at *
      exact out_run (v := .bool c) (w' := fw) (by simp [execOp, kc, k54, k57, H24.out fw, go_sem]) ⟨rfl, Below.refl _ _⟩
    refine rel_cons (Φ := Hop _ _ _ _ _ _ _) (k := 13) ?_ ?_
    · intro fa fw hfB hfN hfk hft
      have k11 : fa.eval (.tmp 11) = .bool false := hft 11 (mem_looks (by kernel_rfl)) (noneed (by kernel_rfl))
      have k51 : fa.eval (.tmp 51) = (.bool true) := by have := hfk 5 (mem_needs (by kernel_rfl)) _ rfl; rw [hRs] at this; exact this
      rw [hRs]
      have kg := get_bool (show fa.tmps.getD 51 undef = .bool true from k51)
      refine hop_guard rfl (by simp [yielded, kg]) ?_
      refine out_move rfl ?_
      exact ⟨k11, Below.refl _ _⟩
    refine rel_cons (Φ := Hop _ _ _ _ _ _ _) (k := 14) ?_ ?_
    · intro fa fw hfB hfN hfk hft
      have k59 : fa.eval (.tmp 59) = (.bool false) := by have := hfk 13 (mem_needs (by kernel_rfl)) _ rfl; rw [hRs] at this; exact this
      have k51 : fa.eval (.tmp 51) = (.bool true) := by have := hfk 5 (mem_needs (by kernel_rfl)) _ rfl; rw [hRs] at this; exact this
      rw [hRs]
      have kg := get_bool (show fa.tmps.getD 51 undef = .bool true from k51)
      refine hop_guard rfl (by simp [yielded, kg]) ?_
      refine out_move rfl ?_
      exact ⟨k59, Below.refl _ _⟩
    refine rel_cons (Φ := Hop _ _ _ _ _ _ _) (k := 15) ?_ ?_
    · intro fa fw hfB hfN hfk hft
      have k9 : fa.eval (.tmp 9) = .string X := hft 9 (mem_looks (by kernel_rfl)) (noneed (by kernel_rfl))
      have k60 : fa.eval (.tmp 60) = (.bool false) := by have := hfk 14 (mem_needs (by kernel_rfl)) _ rfl; rw [hRs] at this; exact this
      rw [hRs]
      have kg := get_bool (show fa.tmps.getD 60 undef = .bool false from k60)
      refine hop_guard rfl (by simp [yielded, kg]) ?_
      refine out_move rfl ?_
      exact ⟨k9, Below.refl _ _⟩
    refine rel_cons (Φ := Hop _ _ _ _ _ _ _) (k := 16) ?_ ?_
    · intro fa fw hfB hfN hfk hft
      have k61 : fa.eval (.tmp 61) = (.string X) := by have := hfk 15 (mem_needs (by kernel_rfl)) _ rfl; rw [hRs] at this; exact this
      have k60 : fa.eval (.tmp 60) = (.bool false) := by have := hfk 14 (mem_needs (by kernel_rfl)) _ rfl; rw [hRs] at this; exact this
      rw [hRs]
      have kg := get_bool (show fa.tmps.getD 60 undef = .bool false from k60)
      refine hop_guard rfl (by simp [yielded, kg]) ?_
      obtain ⟨v', w', hcv, hv, hB⟩ := HCX.out fw
      rw [← k61] at hcv
      exact out_run (v := v') (w' := w') (by unfold execOp; simp only [Sem.run_bind, hcv, Result.andThen_ok, Sem.run_pure]) ⟨hv, hB⟩
    refine rel_cons (Φ := Hop _ _ _ _ _ _ _) (k := 17) ?_ ?_
    · intro fa fw hfB hfN hfk hft
      have k62 : (BytV LX) (fa.eval (.tmp 62)) fw := by have := hfk 16 (mem_needs (by kernel_rfl)) _ rfl; rw [hRs] at this; exact this
      have k60 : fa.eval (.tmp 60) = (.bool false) := by have := hfk 14 (mem_needs (by kernel_rfl)) _ rfl; rw [hRs] at this; exact this
      rw [hRs]
      have kg := get_bool (show fa.tmps.getD 60 undef = .bool false from k60)
      refine hop_guard rfl (by simp [yielded, kg]) ?_
      have kf : fa.eval (.func 10) = .func (.func 10) #[] #[] := rfl
      refine out_call (f := 10) (args := #[fa.eval (.tmp 62)]) (by generalize fa.eval = ρ at *; simp [execOp, kf, go_sem]) ?_
      refine (HDX.out _ fw k62).mono ?_
      rintro e w' ⟨rfl, h⟩
      exact ⟨_, rfl, rfl, h⟩
    refine rel_cons (Φ := Hop _ _ _ _ _ _ _) (k := 18) ?_ ?_
    · intro fa fw hfB hfN hfk hft
      have k10 : fa.eval (.tmp 10) = .string Y := hft 10 (mem_looks (by kernel_rfl)) (noneed (by kernel_rfl))
      have k60 : fa.eval (.tmp 60) = (.bool false) := by have := hfk 14 (mem_needs (by kernel_rfl)) _ rfl; rw [hRs] at this; exact this
      rw [hRs]
      have kg := get_bool (show fa.tmps.getD 60 undef = .bool false from k60)
      refine hop_guard rfl (by simp [yielded, kg]) ?_
      refine out_move rfl ?_
      exact ⟨k10, Below.refl _ _⟩
    refine rel_cons (Φ := Hop _ _ _ _ _ _ _) (k := 19) ?_ ?_
    · intro fa fw hfB hfN hfk hft
      have k64 : fa.eval (.tmp 64) = (.string Y) := by have := hfk 18 (mem_needs (by kernel_rfl)) _ rfl; rw [hRs] at this; exact this
      have k60 : fa.eval (.tmp 60) = (.bool false) := by have := hfk 14 (mem_needs (by kernel_rfl)) _ rfl; rw [hRs] at this; exact this
      rw [hRs]
      have kg := get_bool (show fa.tmps.getD 60 undef = .bool false from k60)
      refine hop_guard rfl (by simp [yielded, kg]) ?_
      obtain ⟨v', w', hcv, hv, hB⟩ := HCY.out fw
      rw [← k64] at hcv
      exact out_run (v := v') (w' := w') (by unfold execOp; simp only [Sem.run_bind, hcv, Result.andThen_ok, Sem.run_pure]) ⟨hv, hB⟩
    refine rel_cons (Φ := Hop _ _ _ _ _ _ _) (k := 20) ?_ ?_
    · intro fa fw hfB hfN hfk hft
      have k65 : (BytV LY) (fa.eval (.tmp 65)) fw := by have := hfk 19 (mem_needs (by kernel_rfl)) _ rfl; rw [hRs] at this; exact this
      have k60 : fa.eval (.tmp 60) = (.bool false) := by have := hfk 14 (mem_needs (by kernel_rfl)) _ rfl; rw [hRs] at this; exact this
      rw [hRs]
      have kg := get_bool (show fa.tmps.getD 60 undef = .bool false from k60)
      refine hop_guard rfl (by simp [yielded, kg]) ?_
      have kf : fa.eval (.func 10) = .func (.func 10) #[] #[] := rfl
      refine out_call (f := 10) (args := #[fa.eval (.tmp 65)]) (by generalize fa.eval = ρ at *; simp [execOp, kf, go_sem]) ?_
      refine (HDY.out _ fw k65).mono ?_
      rintro e w' ⟨rfl, h⟩
      exact ⟨_, rfl, rfl, h⟩
    refine rel_cons (Φ := Hop _ _ _ _ _ _ _) (k := 21) ?_ ?_
    · intro fa fw hfB hfN hfk hft
      have k63 : fa.eval (.tmp 63) = (.agg (ints .u8 DX)) := by have := hfk 17 (mem_needs (by kernel_rfl)) _ rfl; rw [hRs] at this; exact this
      have k66 : fa.eval (.tmp 66) = (.agg (ints .u8 DY)) := by have := hfk 20 (mem_needs (by kernel_rfl)) _ rfl; rw [hRs] at this; exact this
      have k60 : fa.eval (.tmp 60) = (.bool false) := by have := hfk 14 (mem_needs (by kernel_rfl)) _ rfl; rw [hRs] at this; exact this
      rw [hRs]
      have kg := get_bool (show fa.tmps.getD 60 undef = .bool false from k60)
      refine hop_guard rfl (by simp [yielded, kg]) ?_
      have kc : ∀ v, fa.eval (.const v) = v := fun _ => rfl
      generalize fa.eval = ρ at *
      exact out_run (v := .bool c) (w' := fw) (by simp [execOp, kc, k63, k66, H23.out fw, go_sem]) ⟨rfl, Below.refl _ _⟩
    refine rel_cons (Φ := Hop _ _ _ _ _ _ _) (k := 22) ?_ ?_
    · intro fa fw hfB hfN hfk hft
      have k60 : fa.eval (.tmp 60) = (.bool false) := by have := hfk 14 (mem_needs (by kernel_rfl)) _ rfl; rw [hRs] at this; exact this
      have k67 : fa.eval (.tmp 67) = (.bool c) := by have := hfk 21 (mem_needs (by kernel_rfl)) _ rfl; rw [hRs] at this; exact this
      have k51 : fa.eval (.tmp 51) = (.bool true) := by have := hfk 5 (mem_needs (by kernel_rfl)) _ rfl; rw [hRs] at this; exact this
      rw [hRs]
      have kg := get_bool (show fa.tmps.getD 51 undef = .bool true from k51)
      refine hop_guard rfl (by simp [yielded, kg]) ?_
      have kc : ∀ v, fa.eval (.const v) = v := fun _ => rfl
      generalize fa.eval = ρ at *
      exact out_run (v := .bool c) (w' := fw) (by simp [execOp, kc, k60, k67, go_sem]) ⟨rfl, Below.refl _ _⟩
    refine rel_cons (Φ := Hop _ _ _ _ _ _ _) (k := 23) ?_ ?_
    · intro fa fw hfB hfN hfk hft
      have k58 : fa.eval (.tmp 58) = (.bool c) := by have := hfk 12 (mem_needs (by kernel_rfl)) _ rfl; rw [hRs] at this; exact this
      have k68 : fa.eval (.tmp 68) = (.bool c) := by have := hfk 22 (mem_needs (by kernel_rfl)) _ rfl; rw [hRs] at this; exact this
      have k51 : fa.eval (.tmp 51) = (.bool true) := by have := hfk 5 (mem_needs (by kernel_rfl)) _ rfl; rw [hRs] at this; exact this
      rw [hRs]
      have kg := get_bool (show fa.tmps.getD 51 undef = .bool true from k51)
      refine hop_guard rfl (by simp [yielded, kg]) ?_
      have kc : ∀ v, fa.eval (.const v) = v := fun _ => rfl
      generalize fa.eval = ρ at *
      exact out_run (v := .bool true) (w' := fw) (by simp [execOp, kc, k58, k68, go_sem]) ⟨rfl, Below.refl _ _⟩
    refine rel_cons (Φ := Hop _ _ _ _ _ _ _) (k := 24) ?_ ?_
    · intro fa fw hfB hfN hfk hft
      have k51 : fa.eval (.tmp 51) = (.bool true) := by have := hfk 5 (mem_needs (by kernel_rfl)) _ rfl; rw [hRs] at this; exact this
      have k69 : fa.eval (.tmp 69) = (.bool true) := by have := hfk 23 (mem_needs (by kernel_rfl)) _ rfl; rw [hRs] at this; exact this
      rw [hRs]
      refine hop_plain rfl ?_
      have kc : ∀ v, fa.eval (.const v) = v := fun _ => rfl
      generalize fa.eval = ρ at *
      exact out_run (v := .bool true) (w' := fw) (by simp [execOp, kc, k51, k69, go_sem]) ⟨rfl, Below.refl _ _⟩
    refine rel_cons (Φ := Hop _ _ _ _ _ _ _) (k := 25) ?_ ?_
    · intro fa fw hfB hfN hfk hft
      have k70 : fa.eval (.tmp 70) = (.bool true) := by have := hfk 24 (mem_needs (by kernel_rfl)) _ rfl; rw [hRs] at this; exact this
      rw [hRs]
      refine hop_plain rfl ?_
      refine out_assign rfl ?_
      exact ⟨k70, Below.refl _ _⟩
    exact rel_nil
  · intro fa fw hfB hfy hff hfs hfd
    rw [hRs] at hfy
    have k8 : fa.eval (.tmp 8) = (.bool true) := hfy 25 _ rfl (unkilled (by decide))
    have HBf := Lib.hid (hb6.drew.trans (hfB.mono hb6.size))
    have e := rel_frame [46, 47, 48, 49, 50, 51, 52, 53, 54, 55, 56, 57, 58, 59, 60, 61, 62, 63, 64, 65, 66, 67, 68, 69, 70, 8] (by kernel_rfl) hff hfs hfd
    simp only [List.foldl] at e
    rw [show fa.tmps.getD 8 undef = .bool true from k8] at e
    clear hfy hff hfs hfd k8
    generalize fa.tmps.getD 46 undef = x46 at e
    generalize fa.tmps.getD 47 undef = x47 at e
    generalize fa.tmps.getD 48 undef = x48 at e
    generalize fa.tmps.getD 49 undef = x49 at e
    generalize fa.tmps.getD 50 undef = x50 at e
    generalize fa.tmps.getD 51 undef = x51 at e
    generalize fa.tmps.getD 52 undef = x52 at e
    generalize fa.tmps.getD 53 undef = x53 at e
    generalize fa.tmps.getD 54 undef = x54 at e
    generalize fa.tmps.getD 55 undef = x55 at e
    generalize fa.tmps.getD 56 undef = x56 at e
    generalize fa.tmps.getD 57 undef = x57 at e
    generalize fa.tmps.getD 58 undef = x58 at e
    generalize fa.tmps.getD 59 undef = x59 at e
    generalize fa.tmps.getD 60 undef = x60 at e
    generalize fa.tmps.getD 61 undef = x61 at e
    generalize fa.tmps.getD 62 undef = x62 at e
    generalize fa.tmps.getD 63 undef = x63 at e
    generalize fa.tmps.getD 64 undef = x64 at e
    generalize fa.tmps.getD 65 undef = x65 at e
    generalize fa.tmps.getD 66 undef = x66 at e
    generalize fa.tmps.getD 67 undef = x67 at e
    generalize fa.tmps.getD 68 undef = x68 at e
    generalize fa.tmps.getD 69 undef = x69 at e
    generalize fa.tmps.getD 70 undef = x70 at e
    simp [List.setIfInBounds_toArray, List.set_cons_succ, List.set_cons_zero] at e
    subst e
    go_wp2_with fail
    go_ret
    exact ⟨rfl, HBf.out⟩
end Go.Proofs.YtbenegkhekofmaaDoor
