/- Walks: the statement FrameJoins. -/
import Derived.Test.YtcbddkncaeancaaWn
import Derived.Test.YtcbddkncaeancaaKz
import Derived.Deep.Onto
namespace Go.Proofs.Ytcbddkncaeancaa
set_option linter.unusedVariables false
set_option linter.unusedSimpArgs false
open Go.ChangeShapes Go.WideShapes Go.ChangeAt Go.RowKit

theorem run_append_none_cap {P : Program} {w : World} (base : Nat) (t ty e : TypeId) (i : TypeInfo) (size c : Nat) (ht : P.underlying t = some (.slice e)) (hi : P.info? e = some i)
    (v : Value) (n : Nat) (xs : List Value) (hown : w.ownsRow base e size v n xs) :
    (Builtin.append_ #[t, t] ty #[v, .slice none 0 c]).run P w = .ok v w := by
  rcases hown.2 with ⟨rfl, rfl⟩ | ⟨g, cap, cur, rfl, _, _, hnc, _⟩
  · simp [Builtin.append_, run_underlying ht, sizeOf, typeInfo, hi, Builtin.lenOf, Builtin.firstCells]
  · simp [Builtin.append_, run_underlying ht, sizeOf, typeInfo, hi, Builtin.lenOf, Builtin.firstCells, hnc, storeCells]
theorem run_append_strs (w : World) (base : Nat) (v : Value) (n : Nat) (xs : List Value) (u : Value) (ss : List ByteArray) (hown : w.ownsRow base 9 1 v n xs) (hu : Strs w u ss) (hb : (n + ss.length) * 16 ≤ 140737488355328) (hbase : base ≤ w.heap.size) :
    ∃ v' w', (Builtin.append_ #[23, 23] 23 #[v, u]).run Try.prog w = .ok v' w' ∧ w'.ownsRow base 9 1 v' (n + ss.length) (xs ++ ss.map Value.string) ∧ w.grownBy w' v.ownBlock := by
  obtain ⟨i0, hi, hz0, hz1, hz2⟩ := info_parts Try.info9
  rcases hu with ⟨⟨p, cap, rfl⟩, rfl⟩ | ⟨b, off, cap, rfl, hcap, hmax, hb2, hcell⟩
  · cases p with
    | none => exact ⟨v, w, run_append_none_cap base 23 23 9 i0 1 cap Try.underlying23 hi v n xs hown, by simpa using hown, World.grownBy.refl _ _⟩
    | some ad =>
      obtain ⟨v', w', h1, h2, h3, _⟩ := run_append_own_at (P := Try.prog) w base 23 23 9 i0 (.string ⟨#[]⟩) 1 16 Try.underlying23 hi hz0 hz1 hz2 rfl (by decide) v n xs hown ad 0 cap [] rfl (fun j u h => by simp at h) (fun u h => by simp at h) (by unfold maxLen; simp at hb; omega) (by simpa using hb) hbase
      exact ⟨v', w', h1, by simpa using h2, h3⟩
  · obtain ⟨v', w', h1, h2, h3, _⟩ := run_append_own_at (P := Try.prog) w base 23 23 9 i0 (.string ⟨#[]⟩) 1 16 Try.underlying23 hi hz0 hz1 hz2 rfl (by decide) v n xs hown ⟨b, off, none⟩ ss.length cap (ss.map Value.string) (by simp) (fun j y hj => by
      have hjl : j < ss.length := by have := (List.getElem?_eq_some_iff.1 hj).1; simpa using this
      rw [add_none, hcell j hjl]
      rw [List.getElem?_map, List.getElem?_eq_getElem hjl] at hj
      simpa [List.getD, hjl] using hj) (fun y hy => by obtain ⟨s, _, rfl⟩ := List.mem_map.1 hy; rfl) (by unfold maxLen; omega) hb hbase
    exact ⟨v', w', h1, h2, h3⟩
theorem out_append {P : Program} {o : Oper} {ρ : Operand → Value} {w w' : World} {v u v' : Value} {φ : Value → World → Prop} (s x : Operand) (t : TypeId) (ho : o.op = .call { callee := .builtin .append, args := #[s, x], argTypes := #[t, t] })
    (hs : ρ s = v) (hx : ρ x = u) (hr : (Builtin.append_ #[t, t] o.type #[v, u]).run P w = .ok v' w') (hφ : φ v' w') : Out P o ρ w φ := by
  refine out_run (v := v') (w' := w') ?_ hφ
  unfold execOp
  simp only [ho, resolve, invoke, builtin, Sem.run_bind, Sem.run_pure, Result.andThen_ok, List.map_toArray, List.map_cons, List.map_nil, hs, hx, hr]

theorem byts_cut (w : World) (p : Option Addr) (cap n : Nat) (l : List UInt8) (hv : BytsA w (.slice p l.length cap) l) (hn : n ≤ l.length) : BytsA w (.slice p n cap) (l.take n) := by
  rcases hv with ⟨h1, rfl⟩ | ⟨x, c, h1, rfl⟩ | ⟨b, off, c, h1, hcap, hmax, hb, hcell⟩
  · cases h1; simp at hn; subst hn; exact .inl ⟨rfl, rfl⟩
  · cases h1; simp at hn; subst hn; exact .inr (.inl ⟨x, cap, rfl, rfl⟩)
  · cases h1
    refine .inr (.inr ⟨b, off, cap, by rw [List.length_take, Nat.min_eq_left hn], by rw [List.length_take]; omega, hmax, hb, fun i hi => ?_⟩)
    rw [List.length_take] at hi
    rw [hcell i (by omega)]
    simp [List.getD_eq_getElem?_getD, List.getElem?_take_of_lt (show i < n by omega)]
def NewBat (N0 : Nat) : Value → World → Prop := fun v w => ∃ B, v = .slice (some ⟨B, 0, none⟩) 0 0 ∧ N0 ≤ B ∧ w.heap[B]? = some (.cells #[] 9 (0, 0))
theorem NewBat.st1 (N0 : Nat) : St1 (NewBat N0) := fun v w1 w2 ⟨B, h1, h2, h3⟩ hB => ⟨B, h1, h2, by rw [hB.block B (lt_of_block h3), h3]⟩
structure Row9 (N0 n : Nat) (l : List ByteArray) (v : Value) (w : World) : Prop where
  own : w.ownsRow N0 9 1 v n (l.map Value.string)
theorem Row9.st1 (N0 n : Nat) (l : List ByteArray) : St1 (Row9 N0 n l) := fun v w1 w2 h hB => ⟨ownsRow_below h.own hB⟩
def Byt (Y : ByteArray) : Value → World → Prop := fun v w => ∃ l, mkB l = Y ∧ BytsA w v l
theorem Byt.st1 (Y : ByteArray) : St1 (Byt Y) := fun v w1 w2 ⟨l, h1, h2⟩ hB => ⟨l, h1, h2.below hB⟩
theorem joins_great (u1 u2 : Value) (a b : List ByteArray) (w : World) (h1 : Strs w u1 a) (hz1 : ∀ s ∈ a, s.size ≤ 140737488351232) (h2 : Strs w u2 b) (hz2 : ∀ s ∈ b, s.size ≤ 140737488351232) (h : isGreat a = true ∨ isGreat b = true) : Calls Try.prog 9 #[u1, u2] w (LawEnd w) := by
  have HG1 := Lib.hid (fun w1 (hB : Below w.heap.size w w1) => great_any u1 a w1 (h1.below hB) hz1)
  have HG2 := Lib.hid (fun w1 (hB : Below w.heap.size w w1) => great_any u2 b w1 (h2.below hB) hz2)
  clear h1 h2 hz1 hz2
  generalize isGreat a = x at *
  generalize isGreat b = y at *
  cases x
  · obtain rfl : y = true := by simpa using h
    clear h
    go_enter Try.func9, Try.ntmps9
    go_wp2_with fail
    refine (alive_any _).mono ?_
    rintro e w1 ⟨rfl, hB1⟩
    go_wp2_with fail
    refine (HG1.out _ hB1).mono ?_
    rintro e w2 ⟨rfl, rfl⟩
    go_wp2_with fail
    refine (HG2.out _ hB1).mono ?_
    rintro e w2 ⟨rfl, rfl⟩
    go_wp2_with fail
    go_ret
    exact ⟨rfl, hB1⟩
  · clear h
    go_enter Try.func9, Try.ntmps9
    go_wp2_with fail
    refine (alive_any _).mono ?_
    rintro e w1 ⟨rfl, hB1⟩
    go_wp2_with fail
    refine (HG1.out _ hB1).mono ?_
    rintro e w2 ⟨rfl, rfl⟩
    go_wp2_with fail
    go_ret
    exact ⟨rfl, hB1⟩
set_option maxRecDepth 100000 in
set_option maxHeartbeats 4000000 in
theorem joins_some (u1 u2 : Value) (a b : List ByteArray) (w : World) (h1 : Strs w u1 a) (hz1 : ∀ s ∈ a, s.size ≤ 140737488351232) (h2 : Strs w u2 b) (hz2 : ∀ s ∈ b, s.size ≤ 140737488351232) (ha : isGreat a = false) (hb : isGreat b = false) : Calls Try.prog 9 #[u1, u2] w (LawEnd w) := by
  obtain ⟨ta, la⟩ := not_great ha
  obtain ⟨tb, lb⟩ := not_great hb
  have hra := recsL_le a
  have hrb := recsL_le b
  have hsp : splitL (recsL a ++ recsL b) = (a ++ b, (recsL a ++ recsL b).length) := by
    rw [← recsL_append]; exact split_put _ (fun s hs => (List.mem_append.1 hs).elim (total_each a ta s) (total_each b tb s))
  have HSp := Lib.hid hsp
  obtain ⟨p1, cap1, rfl, _⟩ := strs_shape h1
  obtain ⟨p2, cap2, rfl, _⟩ := strs_shape h2
  have HG1 := Lib.hid (fun w1 (hB : Below w.heap.size w w1) => great_any _ a w1 (h1.below hB) hz1)
  have HG2 := Lib.hid (fun w1 (hB : Below w.heap.size w w1) => great_any _ b w1 (h2.below hB) hz2)
  rw [ha] at HG1
  rw [hb] at HG2
  have HP1 := Lib.hid (fun w1 (hB : Below w.heap.size w w1) => put_any (.slice none 0 0) _ [] a w1 (.inl ⟨rfl, rfl⟩) (h1.below hB) (by simp; omega))
  have HP2 := Lib.hid (fun (v : Value) w1 (hB : Below w.heap.size w w1) (hv : BytsA w1 v (recsL a)) => put_any v _ (recsL a) b w1 hv (h2.below hB) (by omega))
  have HA1 := Lib.hid h1
  have HA2 := Lib.hid h2
  clear h1 h2 hz1 hz2 ha hb hsp
  go_enter Try.func9, Try.ntmps9
  go_wp2_with fail
  refine (alive_any _).mono ?_
  rintro e w1 ⟨rfl, hB1⟩
  go_wp2_with fail
  refine (HG1.out _ hB1).mono ?_
  rintro e w2 ⟨rfl, rfl⟩
  go_wp2_with fail
  refine (HG2.out _ hB1).mono ?_
  rintro e w2 ⟨rfl, rfl⟩
  go_wp2_with fail
  refine (HP1.out _ hB1).mono ?_
  rintro e w2 ⟨v2, rfl, hv2, hB2⟩
  rw [List.nil_append] at hv2
  have hx2 := BytsA.ofRow hv2
  obtain ⟨p5, cap5, rfl⟩ := byts_shape hx2.byts
  have HX2 := Lib.hid hx2
  replace hB1 := hB1.trans (hB2.mono hB1.size)
  clear hB2 hv2 hx2
  obtain ⟨n, hn⟩ : ∃ n, (recsL a).length = n := ⟨_, rfl⟩
  rw [hn] at HX2 hra ⊢
  have Hn := Lib.hid hn
  clear hn
  go_wp2_with (at_builtin; go_must (refine wpList_append_byts rfl (.tmp 22) (.tmp 23) rfl w2.heap.size _ 0 [] rfl (World.ownsRow_lit (base := w2.heap.size) (e := 5) (size := 1) w2 #[] 0 (Nat.le_refl _) (by decide) rfl) _ (recsL a) (HX2.out.below ((Below.refl _ _).alloc (Nat.le_refl _) _)) rfl (by rw [Hn.out]; omega) (by simp) ?_; intro v3 w3 hown3 hgrow3))
  have hB3 : Below w.heap.size w w3 := (hB1.alloc hB1.size (.cells #[] 5)).grown hgrow3 (by simp; have := hB1.size; omega) (fun q hq => by cases hq; exact hB1.size)
  have hG23 : Below w2.heap.size w2 w3 := ((Below.refl _ _).alloc (Nat.le_refl _) (.cells #[] 5)).grown hgrow3 (by simp) (fun q hq => by cases hq; exact Nat.le_refl _)
  have hb3 : BytsA w3 v3 (recsL a) := BytsA.ofRow (by rw [Nat.zero_add, List.nil_append] at hown3; exact hown3.mono (Nat.le_refl _))
  have HX3 := Lib.hid (HX2.out.below hG23)
  clear hown3 hgrow3
  refine (HP2.out v3 _ hB3 hb3).mono ?_
  rintro e w4 ⟨v4, rfl, hv4, hB4⟩
  have hx4 := BytsA.ofRow hv4
  obtain ⟨p7, cap7, rfl⟩ := byts_shape hx4.byts
  have HX4 := Lib.hid hx4
  have HX34 := Lib.hid (HX3.out.below hB4)
  replace hB1 := hB3.trans (hB4.mono hB3.size)
  have hs := split_any _ (recsL a ++ recsL b) w4 hx4.byts (by rw [List.length_append]; have := Hn.out; omega)
  rw [HSp.out] at hs
  have Hs := Lib.hid hs
  obtain ⟨m, hm⟩ : ∃ m, (recsL a ++ recsL b).length = m := ⟨_, rfl⟩
  have hnm : n ≤ m := by rw [← hm, List.length_append, Hn.out]; omega
  have Hup0 := Lib.hid (And.intro (byts_upto w4 p7 cap7 n (recsL a ++ recsL b) hx4 (by rw [hm]; exact hnm)).1 (byts_cut w4 p7 cap7 n (recsL a ++ recsL b) hx4 (by rw [hm]; exact hnm)))
  rw [hm] at HX4 Hs Hup0 ⊢
  have Hm := Lib.hid hm
  clear hm hs hx4 hv4 hB3 hB4 hb3 hG23
  go_wp2_with fail
  refine Hs.out.mono ?_
  rintro e w5 ⟨hB5, v8, rfl, hv8⟩
  obtain ⟨p8, cap8, rfl, _⟩ := strs_shape hv8
  have hll : (a ++ b).length = a.length + b.length := List.length_append
  rw [hll] at hv8 ⊢
  clear hll
  have HX5 := Lib.hid (HX34.out.below hB5)
  have HX7 := Lib.hid (HX4.out.below hB5)
  have HXu := Lib.hid (Hup0.out.2.below hB5)
  have Hup := Lib.hid Hup0.out.1
  have HS8 := Lib.hid hv8
  replace hB1 := hB1.trans (hB5.mono hB1.size)
  have HA1' := Lib.hid (HA1.out.below hB1)
  have HA2' := Lib.hid (HA2.out.below hB1)
  clear hB5 hv8 Hs HX4 HX34 HX3 HX2 Hup0
  obtain ⟨Y, hY⟩ : ∃ Y, Y = mkB (recsL a ++ recsL b) := ⟨_, rfl⟩
  obtain ⟨X, hX⟩ : ∃ X, X = mkB (recsL a) := ⟨_, rfl⟩
  have HY := Lib.hid hY.symm
  have HX := Lib.hid hX.symm
  have HXt := Lib.hid (show mkB ((recsL a ++ recsL b).take n) = X by rw [hX, ← Hn.out, List.take_left])
  have HYab := Lib.hid (show mkB (recsL (a ++ b)) = Y by rw [hY, recsL_append])
  clear hY hX
  go_wp2_with fail
  have hd5 : Below w5.heap.size w5 w5.drew := (Below.refl _ _).drew
  have hbY := HX7.out.below hd5
  have hbX := HXu.out.below hd5
  have hb5 := HX5.out.below hd5
  have hsa := HA1'.out.below hd5
  have hsb := HA2'.out.below hd5
  have hsl := HS8.out.below hd5
  have hRL : ∃ Rs : List (Value → World → Prop), Rs = [PureV (.slice p7 m cap7),
      PureV (.string Y),
      NewBat w5.heap.size,
      PureV (.slice p1 a.length cap1),
      Row9 w5.heap.size (a.length) (a),
      PureV (.slice p2 b.length cap2),
      Row9 w5.heap.size (a.length + b.length) (a ++ b),
      Byt Y,
      PureV (.string Y),
      PureV (.bool true),
      PureV (.bool true),
      PureV (.slice p7 m cap7),
      PureV (.int .i64 n),
      PureV (.slice p7 n cap7),
      PureV (.string X),
      PureV (.slice p5 n cap5),
      PureV (.string X),
      PureV (.bool true),
      PureV (.bool true),
      PureV (.bool true),
      PureV (.int .i64 m),
      PureV (.slice p7 m cap7),
      PureV (.int .i64 m),
      PureV (.bool true),
      PureV (.bool true),
      PureV (.bool true),
      PureV (.slice p8 (a.length + b.length) cap8),
      NewBat w5.heap.size,
      PureV (.slice p1 a.length cap1),
      Row9 w5.heap.size (a.length) (a),
      PureV (.slice p2 b.length cap2),
      Row9 w5.heap.size (a.length + b.length) (a ++ b),
      PureV (.bool true),
      PureV (.bool true),
      PureV (.bool true)] := ⟨_, rfl⟩
  obtain ⟨Rs, hRs⟩ := hRL
  refine wp_region_rel (RL Rs) [2, 2, 1, 2, 1, 2, 1, 1, 2, 2, 2, 2, 2, 2, 2, 2, 2, 2, 2, 2, 2, 2, 2, 2, 2, 2, 2, 1, 2, 1, 2, 1, 2, 2, 2] [1, 1, 1, 1, 2, 1, 2, 1, 1, 1, 1, 1, 1, 1, 1, 1, 1, 1, 1, 1, 1, 1, 1, 1, 1, 1, 1, 1, 1, 2, 1, 2, 1, 1, 1] [[], [], [], [], [2], [], [2, 4], [], [], [], [], [], [], [], [], [], [], [], [], [], [], [], [], [], [], [], [], [], [], [2, 4, 6, 7, 27], [], [2, 4, 6, 7, 27, 29], [], [], []] (by kernel_rfl) (by kernel_rfl) (RL.st1 (by rw [hRs]; exact st1_cons (PureV.st1 _) (st1_cons (PureV.st1 _) (st1_cons (NewBat.st1 _) (st1_cons (PureV.st1 _) (st1_cons (Row9.st1 _ _ _) (st1_cons (PureV.st1 _) (st1_cons (Row9.st1 _ _ _) (st1_cons (Byt.st1 _) (st1_cons (PureV.st1 _) (st1_cons (PureV.st1 _) (st1_cons (PureV.st1 _) (st1_cons (PureV.st1 _) (st1_cons (PureV.st1 _) (st1_cons (PureV.st1 _) (st1_cons (PureV.st1 _) (st1_cons (PureV.st1 _) (st1_cons (PureV.st1 _) (st1_cons (PureV.st1 _) (st1_cons (PureV.st1 _) (st1_cons (PureV.st1 _) (st1_cons (PureV.st1 _) (st1_cons (PureV.st1 _) (st1_cons (PureV.st1 _) (st1_cons (PureV.st1 _) (st1_cons (PureV.st1 _) (st1_cons (PureV.st1 _) (st1_cons (PureV.st1 _) (st1_cons (NewBat.st1 _) (st1_cons (PureV.st1 _) (st1_cons (Row9.st1 _ _ _) (st1_cons (PureV.st1 _) (st1_cons (Row9.st1 _ _ _) (st1_cons (PureV.st1 _) (st1_cons (PureV.st1 _) (st1_cons (PureV.st1 _) (st1_nil))))))))))))))))))))))))))))))))))))) (RL.st2 (by rw [hRs]; exact st2_cons (PureV.st2 _ _ _) (st2_cons (PureV.st2 _ _ _) (st2_skip (st2_cons (PureV.st2 _ _ _) (st2_skip (st2_cons (PureV.st2 _ _ _) (st2_skip (st2_skip (st2_cons (PureV.st2 _ _ _) (st2_cons (PureV.st2 _ _ _) (st2_cons (PureV.st2 _ _ _) (st2_cons (PureV.st2 _ _ _) (st2_cons (PureV.st2 _ _ _) (st2_cons (PureV.st2 _ _ _) (st2_cons (PureV.st2 _ _ _) (st2_cons (PureV.st2 _ _ _) (st2_cons (PureV.st2 _ _ _) (st2_cons (PureV.st2 _ _ _) (st2_cons (PureV.st2 _ _ _) (st2_cons (PureV.st2 _ _ _) (st2_cons (PureV.st2 _ _ _) (st2_cons (PureV.st2 _ _ _) (st2_cons (PureV.st2 _ _ _) (st2_cons (PureV.st2 _ _ _) (st2_cons (PureV.st2 _ _ _) (st2_cons (PureV.st2 _ _ _) (st2_cons (PureV.st2 _ _ _) (st2_skip (st2_cons (PureV.st2 _ _ _) (st2_skip (st2_cons (PureV.st2 _ _ _) (st2_skip (st2_cons (PureV.st2 _ _ _) (st2_cons (PureV.st2 _ _ _) (st2_cons (PureV.st2 _ _ _) (st2_nil))))))))))))))))))))))))))))))))))))) ?_ ?_ ?_
  · intro i o d hi hd
    have hmem := List.mem_of_getElem? hi
    simp only [List.mem_cons, List.not_mem_nil, or_false] at hmem
    rcases hmem with rfl | rfl | rfl | rfl | rfl | rfl | rfl | rfl | rfl | rfl | rfl | rfl | rfl | rfl | rfl | rfl | rfl | rfl | rfl | rfl | rfl | rfl | rfl | rfl | rfl | rfl | rfl | rfl | rfl | rfl | rfl | rfl | rfl | rfl | rfl <;> simp at hd <;> (subst hd; simp)
  · refine rel_start (Φ := Hop _ _ _ _ _ _ _) ?_
    refine rel_cons (Φ := Hop _ _ _ _ _ _ _) (k := 0) ?_ ?_
    · intro fa fw hfB hfN hfk hft
      have k7 : fa.eval (.tmp 7) = .slice p7 m cap7 := hft 7 (mem_looks (by kernel_rfl)) (noneed (by kernel_rfl))
      rw [hRs]
      refine hop_plain rfl ?_
      refine out_move rfl ?_
      exact ⟨k7, Below.refl _ _⟩
    refine rel_cons (Φ := Hop _ _ _ _ _ _ _) (k := 1) ?_ ?_
    · intro fa fw hfB hfN hfk hft
      have k32 : fa.eval (.tmp 32) = (.slice p7 m cap7) := by have := hfk 0 (mem_needs (by kernel_rfl)) _ rfl; rw [hRs] at this; exact this
      rw [hRs]
      refine hop_plain rfl ?_
      have hcv := byts_conv (hbY.below hfB)
      rw [HY.out] at hcv
      rw [← k32] at hcv
      exact out_run (v := .string Y) (w' := fw) (by unfold execOp; simp only [Sem.run_bind, hcv, Result.andThen_ok, Sem.run_pure]) ⟨rfl, Below.refl _ _⟩
    refine rel_cons (Φ := Hop _ _ _ _ _ _ _) (k := 2) ?_ ?_
    · intro fa fw hfB hfN hfk hft
      rw [hRs]
      refine hop_plain rfl ?_
      have kc : ∀ v, fa.eval (.const v) = v := fun _ => rfl
      generalize fa.eval = ρ at *
      exact out_run (v := .slice (some ⟨fw.heap.size, 0, none⟩) 0 0) (w' := fw.alloc (.cells #[] 9)) (by simp [execOp, kc, go_sem]) ⟨⟨_, rfl, hfN, heap_alloc_new _ _⟩, (Below.refl _ _).alloc (Nat.le_refl _) _⟩
    refine rel_cons (Φ := Hop _ _ _ _ _ _ _) (k := 3) ?_ ?_
    · intro fa fw hfB hfN hfk hft
      have k0 : fa.eval (.tmp 0) = .slice p1 a.length cap1 := hft 0 (mem_looks (by kernel_rfl)) (noneed (by kernel_rfl))
      rw [hRs]
      refine hop_plain rfl ?_
      refine out_move rfl ?_
      exact ⟨k0, Below.refl _ _⟩
    refine rel_cons (Φ := Hop _ _ _ _ _ _ _) (k := 4) ?_ ?_
    · intro fa fw hfB hfN hfk hft
      have k34 : (NewBat w5.heap.size) (fa.eval (.tmp 34)) fw := by have := hfk 2 (mem_needs (by kernel_rfl)) _ rfl; rw [hRs] at this; exact this
      have k35 : fa.eval (.tmp 35) = (.slice p1 a.length cap1) := by have := hfk 3 (mem_needs (by kernel_rfl)) _ rfl; rw [hRs] at this; exact this
      rw [hRs]
      refine hop_plain rfl ?_
      obtain ⟨B, hb1, hb2, hb3⟩ := k34
      have hown0 : fw.ownsRow w5.heap.size 9 1 (.slice (some ⟨B, 0, none⟩) 0 0) 0 [] := ⟨rfl, .inr ⟨B, 0, #[], rfl, hb2, hb3, Nat.le_refl _, by decide, rfl, rfl⟩⟩
      obtain ⟨v', w', hr, ho, hg⟩ := run_append_strs fw w5.heap.size _ 0 [] _ a hown0 (hsa.below hfB) (by omega) hfN
      refine out_append (.tmp 34) (.tmp 35) 23 rfl hb1 k35 hr ⟨(show Row9 w5.heap.size a.length a v' w' from ⟨by simpa using ho⟩), ?_⟩
      exact (Below.refl _ _).grown hg hfN (fun k hk => (hown0.lt k hk).1)
    refine rel_cons (Φ := Hop _ _ _ _ _ _ _) (k := 5) ?_ ?_
    · intro fa fw hfB hfN hfk hft
      have k1 : fa.eval (.tmp 1) = .slice p2 b.length cap2 := hft 1 (mem_looks (by kernel_rfl)) (noneed (by kernel_rfl))
      rw [hRs]
      refine hop_plain rfl ?_
      refine out_move rfl ?_
      exact ⟨k1, Below.refl _ _⟩
    refine rel_cons (Φ := Hop _ _ _ _ _ _ _) (k := 6) ?_ ?_
    · intro fa fw hfB hfN hfk hft
      have k36 : (Row9 w5.heap.size (a.length) (a)) (fa.eval (.tmp 36)) fw := by have := hfk 4 (mem_needs (by kernel_rfl)) _ rfl; rw [hRs] at this; exact this
      have k37 : fa.eval (.tmp 37) = (.slice p2 b.length cap2) := by have := hfk 5 (mem_needs (by kernel_rfl)) _ rfl; rw [hRs] at this; exact this
      rw [hRs]
      refine hop_plain rfl ?_
      obtain ⟨ho0⟩ := k36
      obtain ⟨v', w', hr, ho, hg⟩ := run_append_strs fw w5.heap.size _ a.length (a.map Value.string) _ b ho0 (hsb.below hfB) (by omega) hfN
      refine out_append (.tmp 36) (.tmp 37) 23 rfl rfl k37 hr ⟨(show Row9 w5.heap.size (a.length + b.length) (a ++ b) v' w' from ⟨by simpa using ho⟩), ?_⟩
      exact (Below.refl _ _).grown hg hfN (fun k hk => (ho0.lt k hk).1)
    refine rel_cons (Φ := Hop _ _ _ _ _ _ _) (k := 7) ?_ ?_
    · intro fa fw hfB hfN hfk hft
      have k38 : (Row9 w5.heap.size (a.length + b.length) (a ++ b)) (fa.eval (.tmp 38)) fw := by have := hfk 6 (mem_needs (by kernel_rfl)) _ rfl; rw [hRs] at this; exact this
      rw [hRs]
      refine hop_plain rfl ?_
      obtain ⟨ho0⟩ := k38
      have hc := put_any (.slice none 0 0) _ [] (a ++ b) fw (.inl ⟨rfl, rfl⟩) (Strs.ofRow ho0) (by rw [total_append, List.length_append]; simp; omega)
      have kc : fa.eval (.const (.slice none 0 0)) = .slice none 0 0 := rfl
      have kf : fa.eval (.func 15) = .func (.func 15) #[] #[] := rfl
      refine out_call (f := 15) (args := #[.slice none 0 0, fa.eval (.tmp 38)]) (by generalize fa.eval = ρ at *; simp [execOp, kc, kf, go_sem]) ?_
      refine hc.mono ?_
      rintro e w' ⟨v', rfl, h1, h2⟩
      rw [List.nil_append] at h1
      exact ⟨v', rfl, ⟨recsL (a ++ b), HYab.out, BytsA.ofRow h1⟩, h2⟩
    refine rel_cons (Φ := Hop _ _ _ _ _ _ _) (k := 8) ?_ ?_
    · intro fa fw hfB hfN hfk hft
      have k39 : (Byt Y) (fa.eval (.tmp 39)) fw := by have := hfk 7 (mem_needs (by kernel_rfl)) _ rfl; rw [hRs] at this; exact this
      rw [hRs]
      refine hop_plain rfl ?_
      obtain ⟨l, hl, hby⟩ := k39
      have hcv := byts_conv hby
      rw [hl] at hcv
      exact out_run (v := .string Y) (w' := fw) (by unfold execOp; simp only [Sem.run_bind, hcv, Result.andThen_ok, Sem.run_pure]) ⟨rfl, Below.refl _ _⟩
    refine rel_cons (Φ := Hop _ _ _ _ _ _ _) (k := 9) ?_ ?_
    · intro fa fw hfB hfN hfk hft
      have k33 : fa.eval (.tmp 33) = (.string Y) := by have := hfk 1 (mem_needs (by kernel_rfl)) _ rfl; rw [hRs] at this; exact this
      have k40 : fa.eval (.tmp 40) = (.string Y) := by have := hfk 8 (mem_needs (by kernel_rfl)) _ rfl; rw [hRs] at this; exact this
      rw [hRs]
      refine hop_plain rfl ?_
      have kc : ∀ v, fa.eval (.const v) = v := fun _ => rfl
      generalize fa.eval = ρ at *
      exact out_run (v := .bool true) (w' := fw) (by simp [execOp, kc, k33, k40, go_sem]) ⟨rfl, Below.refl _ _⟩
    refine rel_cons (Φ := Hop _ _ _ _ _ _ _) (k := 10) ?_ ?_
    · intro fa fw hfB hfN hfk hft
      have k41 : fa.eval (.tmp 41) = (.bool true) := by have := hfk 9 (mem_needs (by kernel_rfl)) _ rfl; rw [hRs] at this; exact this
      rw [hRs]
      refine hop_plain rfl ?_
      refine out_move rfl ?_
      exact ⟨k41, Below.refl _ _⟩
    refine rel_cons (Φ := Hop _ _ _ _ _ _ _) (k := 11) ?_ ?_
    · intro fa fw hfB hfN hfk hft
      have k7 : fa.eval (.tmp 7) = .slice p7 m cap7 := hft 7 (mem_looks (by kernel_rfl)) (noneed (by kernel_rfl))
      have k42 : fa.eval (.tmp 42) = (.bool true) := by have := hfk 10 (mem_needs (by kernel_rfl)) _ rfl; rw [hRs] at this; exact this
      rw [hRs]
      have kg := get_bool (show fa.tmps.getD 42 undef = .bool true from k42)
      refine hop_guard rfl (by simp [yielded, kg]) ?_
      refine out_move rfl ?_
      exact ⟨k7, Below.refl _ _⟩
    refine rel_cons (Φ := Hop _ _ _ _ _ _ _) (k := 12) ?_ ?_
    · intro fa fw hfB hfN hfk hft
      have k6 : fa.eval (.tmp 6) = .int .i64 n := hft 6 (mem_looks (by kernel_rfl)) (noneed (by kernel_rfl))
      have k42 : fa.eval (.tmp 42) = (.bool true) := by have := hfk 10 (mem_needs (by kernel_rfl)) _ rfl; rw [hRs] at this; exact this
      rw [hRs]
      have kg := get_bool (show fa.tmps.getD 42 undef = .bool true from k42)
      refine hop_guard rfl (by simp [yielded, kg]) ?_
      refine out_move rfl ?_
      exact ⟨k6, Below.refl _ _⟩
    refine rel_cons (Φ := Hop _ _ _ _ _ _ _) (k := 13) ?_ ?_
    · intro fa fw hfB hfN hfk hft
      have k43 : fa.eval (.tmp 43) = (.slice p7 m cap7) := by have := hfk 11 (mem_needs (by kernel_rfl)) _ rfl; rw [hRs] at this; exact this
      have k44 : fa.eval (.tmp 44) = (.int .i64 n) := by have := hfk 12 (mem_needs (by kernel_rfl)) _ rfl; rw [hRs] at this; exact this
      have k42 : fa.eval (.tmp 42) = (.bool true) := by have := hfk 10 (mem_needs (by kernel_rfl)) _ rfl; rw [hRs] at this; exact this
      rw [hRs]
      have kg := get_bool (show fa.tmps.getD 42 undef = .bool true from k42)
      refine hop_guard rfl (by simp [yielded, kg]) ?_
      have hr := Hup.out fw
      exact out_run (v := .slice p7 n cap7) (w' := fw) (by generalize fa.eval = ρ at *; simp [execOp, k43, k44, hr, go_sem]) ⟨rfl, Below.refl _ _⟩
    refine rel_cons (Φ := Hop _ _ _ _ _ _ _) (k := 14) ?_ ?_
    · intro fa fw hfB hfN hfk hft
      have k45 : fa.eval (.tmp 45) = (.slice p7 n cap7) := by have := hfk 13 (mem_needs (by kernel_rfl)) _ rfl; rw [hRs] at this; exact this
      have k42 : fa.eval (.tmp 42) = (.bool true) := by have := hfk 10 (mem_needs (by kernel_rfl)) _ rfl; rw [hRs] at this; exact this
      rw [hRs]
      have kg := get_bool (show fa.tmps.getD 42 undef = .bool true from k42)
      refine hop_guard rfl (by simp [yielded, kg]) ?_
      have hcv := byts_conv (hbX.below hfB)
      rw [HXt.out] at hcv
      rw [← k45] at hcv
      exact out_run (v := .string X) (w' := fw) (by unfold execOp; simp only [Sem.run_bind, hcv, Result.andThen_ok, Sem.run_pure]) ⟨rfl, Below.refl _ _⟩
    refine rel_cons (Φ := Hop _ _ _ _ _ _ _) (k := 15) ?_ ?_
    · intro fa fw hfB hfN hfk hft
      have k5 : fa.eval (.tmp 5) = .slice p5 n cap5 := hft 5 (mem_looks (by kernel_rfl)) (noneed (by kernel_rfl))
      have k42 : fa.eval (.tmp 42) = (.bool true) := by have := hfk 10 (mem_needs (by kernel_rfl)) _ rfl; rw [hRs] at this; exact this
      rw [hRs]
      have kg := get_bool (show fa.tmps.getD 42 undef = .bool true from k42)
      refine hop_guard rfl (by simp [yielded, kg]) ?_
      refine out_move rfl ?_
      exact ⟨k5, Below.refl _ _⟩
    refine rel_cons (Φ := Hop _ _ _ _ _ _ _) (k := 16) ?_ ?_
    · intro fa fw hfB hfN hfk hft
      have k47 : fa.eval (.tmp 47) = (.slice p5 n cap5) := by have := hfk 15 (mem_needs (by kernel_rfl)) _ rfl; rw [hRs] at this; exact this
      have k42 : fa.eval (.tmp 42) = (.bool true) := by have := hfk 10 (mem_needs (by kernel_rfl)) _ rfl; rw [hRs] at this; exact this
      rw [hRs]
      have kg := get_bool (show fa.tmps.getD 42 undef = .bool true from k42)
      refine hop_guard rfl (by simp [yielded, kg]) ?_
      have hcv := byts_conv (hb5.below hfB)
      rw [HX.out] at hcv
      rw [← k47] at hcv
      exact out_run (v := .string X) (w' := fw) (by unfold execOp; simp only [Sem.run_bind, hcv, Result.andThen_ok, Sem.run_pure]) ⟨rfl, Below.refl _ _⟩
    refine rel_cons (Φ := Hop _ _ _ _ _ _ _) (k := 17) ?_ ?_
    · intro fa fw hfB hfN hfk hft
      have k46 : fa.eval (.tmp 46) = (.string X) := by have := hfk 14 (mem_needs (by kernel_rfl)) _ rfl; rw [hRs] at this; exact this
      have k48 : fa.eval (.tmp 48) = (.string X) := by have := hfk 16 (mem_needs (by kernel_rfl)) _ rfl; rw [hRs] at this; exact this
      have k42 : fa.eval (.tmp 42) = (.bool true) := by have := hfk 10 (mem_needs (by kernel_rfl)) _ rfl; rw [hRs] at this; exact this
      rw [hRs]
      have kg := get_bool (show fa.tmps.getD 42 undef = .bool true from k42)
      refine hop_guard rfl (by simp [yielded, kg]) ?_
      have kc : ∀ v, fa.eval (.const v) = v := fun _ => rfl
      generalize fa.eval = ρ at *
      exact out_run (v := .bool true) (w' := fw) (by simp [execOp, kc, k46, k48, go_sem]) ⟨rfl, Below.refl _ _⟩
    refine rel_cons (Φ := Hop _ _ _ _ _ _ _) (k := 18) ?_ ?_
    · intro fa fw hfB hfN hfk hft
      have k42 : fa.eval (.tmp 42) = (.bool true) := by have := hfk 10 (mem_needs (by kernel_rfl)) _ rfl; rw [hRs] at this; exact this
      have k49 : fa.eval (.tmp 49) = (.bool true) := by have := hfk 17 (mem_needs (by kernel_rfl)) _ rfl; rw [hRs] at this; exact this
      rw [hRs]
      refine hop_plain rfl ?_
      have kc : ∀ v, fa.eval (.const v) = v := fun _ => rfl
      generalize fa.eval = ρ at *
      exact out_run (v := .bool true) (w' := fw) (by simp [execOp, kc, k42, k49, go_sem]) ⟨rfl, Below.refl _ _⟩
    refine rel_cons (Φ := Hop _ _ _ _ _ _ _) (k := 19) ?_ ?_
    · intro fa fw hfB hfN hfk hft
      have k50 : fa.eval (.tmp 50) = (.bool true) := by have := hfk 18 (mem_needs (by kernel_rfl)) _ rfl; rw [hRs] at this; exact this
      rw [hRs]
      refine hop_plain rfl ?_
      refine out_move rfl ?_
      exact ⟨k50, Below.refl _ _⟩
    refine rel_cons (Φ := Hop _ _ _ _ _ _ _) (k := 20) ?_ ?_
    · intro fa fw hfB hfN hfk hft
      have k9 : fa.eval (.tmp 9) = .int .i64 m := hft 9 (mem_looks (by kernel_rfl)) (noneed (by kernel_rfl))
      have k51 : fa.eval (.tmp 51) = (.bool true) := by have := hfk 19 (mem_needs (by kernel_rfl)) _ rfl; rw [hRs] at this; exact this
      rw [hRs]
      have kg := get_bool (show fa.tmps.getD 51 undef = .bool true from k51)
      refine hop_guard rfl (by simp [yielded, kg]) ?_
      refine out_move rfl ?_
      exact ⟨k9, Below.refl _ _⟩
    refine rel_cons (Φ := Hop _ _ _ _ _ _ _) (k := 21) ?_ ?_
    · intro fa fw hfB hfN hfk hft
      have k7 : fa.eval (.tmp 7) = .slice p7 m cap7 := hft 7 (mem_looks (by kernel_rfl)) (noneed (by kernel_rfl))
      have k51 : fa.eval (.tmp 51) = (.bool true) := by have := hfk 19 (mem_needs (by kernel_rfl)) _ rfl; rw [hRs] at this; exact this
      rw [hRs]
      have kg := get_bool (show fa.tmps.getD 51 undef = .bool true from k51)
      refine hop_guard rfl (by simp [yielded, kg]) ?_
      refine out_move rfl ?_
      exact ⟨k7, Below.refl _ _⟩
    refine rel_cons (Φ := Hop _ _ _ _ _ _ _) (k := 22) ?_ ?_
    · intro fa fw hfB hfN hfk hft
      have k53 : fa.eval (.tmp 53) = (.slice p7 m cap7) := by have := hfk 21 (mem_needs (by kernel_rfl)) _ rfl; rw [hRs] at this; exact this
      have k51 : fa.eval (.tmp 51) = (.bool true) := by have := hfk 19 (mem_needs (by kernel_rfl)) _ rfl; rw [hRs] at this; exact this
      rw [hRs]
      have kg := get_bool (show fa.tmps.getD 51 undef = .bool true from k51)
      refine hop_guard rfl (by simp [yielded, kg]) ?_
      have kc : ∀ v, fa.eval (.const v) = v := fun _ => rfl
      generalize fa.eval = ρ at *
      exact out_run (v := .int .i64 m) (w' := fw) (by simp [execOp, kc, k53, go_sem]) ⟨rfl, Below.refl _ _⟩
    refine rel_cons (Φ := Hop _ _ _ _ _ _ _) (k := 23) ?_ ?_
    · intro fa fw hfB hfN hfk hft
      have k52 : fa.eval (.tmp 52) = (.int .i64 m) := by have := hfk 20 (mem_needs (by kernel_rfl)) _ rfl; rw [hRs] at this; exact this
      have k54 : fa.eval (.tmp 54) = (.int .i64 m) := by have := hfk 22 (mem_needs (by kernel_rfl)) _ rfl; rw [hRs] at this; exact this
      have k51 : fa.eval (.tmp 51) = (.bool true) := by have := hfk 19 (mem_needs (by kernel_rfl)) _ rfl; rw [hRs] at this; exact this
      rw [hRs]
      have kg := get_bool (show fa.tmps.getD 51 undef = .bool true from k51)
      refine hop_guard rfl (by simp [yielded, kg]) ?_
      have kc : ∀ v, fa.eval (.const v) = v := fun _ => rfl
      generalize fa.eval = ρ at *
      exact out_run (v := .bool true) (w' := fw) (by simp [execOp, kc, k52, k54, go_sem]) ⟨rfl, Below.refl _ _⟩
    refine rel_cons (Φ := Hop _ _ _ _ _ _ _) (k := 24) ?_ ?_
    · intro fa fw hfB hfN hfk hft
      have k51 : fa.eval (.tmp 51) = (.bool true) := by have := hfk 19 (mem_needs (by kernel_rfl)) _ rfl; rw [hRs] at this; exact this
      have k55 : fa.eval (.tmp 55) = (.bool true) := by have := hfk 23 (mem_needs (by kernel_rfl)) _ rfl; rw [hRs] at this; exact this
      rw [hRs]
      refine hop_plain rfl ?_
      have kc : ∀ v, fa.eval (.const v) = v := fun _ => rfl
      generalize fa.eval = ρ at *
      exact out_run (v := .bool true) (w' := fw) (by simp [execOp, kc, k51, k55, go_sem]) ⟨rfl, Below.refl _ _⟩
    refine rel_cons (Φ := Hop _ _ _ _ _ _ _) (k := 25) ?_ ?_
    · intro fa fw hfB hfN hfk hft
      have k56 : fa.eval (.tmp 56) = (.bool true) := by have := hfk 24 (mem_needs (by kernel_rfl)) _ rfl; rw [hRs] at this; exact this
      rw [hRs]
      refine hop_plain rfl ?_
      refine out_move rfl ?_
      exact ⟨k56, Below.refl _ _⟩
    refine rel_cons (Φ := Hop _ _ _ _ _ _ _) (k := 26) ?_ ?_
    · intro fa fw hfB hfN hfk hft
      have k8 : fa.eval (.tmp 8) = .slice p8 (a.length + b.length) cap8 := hft 8 (mem_looks (by kernel_rfl)) (noneed (by kernel_rfl))
      have k57 : fa.eval (.tmp 57) = (.bool true) := by have := hfk 25 (mem_needs (by kernel_rfl)) _ rfl; rw [hRs] at this; exact this
      rw [hRs]
      have kg := get_bool (show fa.tmps.getD 57 undef = .bool true from k57)
      refine hop_guard rfl (by simp [yielded, kg]) ?_
      refine out_move rfl ?_
      exact ⟨k8, Below.refl _ _⟩
    refine rel_cons (Φ := Hop _ _ _ _ _ _ _) (k := 27) ?_ ?_
    · intro fa fw hfB hfN hfk hft
      have k57 : fa.eval (.tmp 57) = (.bool true) := by have := hfk 25 (mem_needs (by kernel_rfl)) _ rfl; rw [hRs] at this; exact this
      rw [hRs]
      have kg := get_bool (show fa.tmps.getD 57 undef = .bool true from k57)
      refine hop_guard rfl (by simp [yielded, kg]) ?_
      have kc : ∀ v, fa.eval (.const v) = v := fun _ => rfl
      generalize fa.eval = ρ at *
      exact out_run (v := .slice (some ⟨fw.heap.size, 0, none⟩) 0 0) (w' := fw.alloc (.cells #[] 9)) (by simp [execOp, kc, go_sem]) ⟨⟨_, rfl, hfN, heap_alloc_new _ _⟩, (Below.refl _ _).alloc (Nat.le_refl _) _⟩
    refine rel_cons (Φ := Hop _ _ _ _ _ _ _) (k := 28) ?_ ?_
    · intro fa fw hfB hfN hfk hft
      have k0 : fa.eval (.tmp 0) = .slice p1 a.length cap1 := hft 0 (mem_looks (by kernel_rfl)) (noneed (by kernel_rfl))
      have k57 : fa.eval (.tmp 57) = (.bool true) := by have := hfk 25 (mem_needs (by kernel_rfl)) _ rfl; rw [hRs] at this; exact this
      rw [hRs]
      have kg := get_bool (show fa.tmps.getD 57 undef = .bool true from k57)
      refine hop_guard rfl (by simp [yielded, kg]) ?_
      refine out_move rfl ?_
      exact ⟨k0, Below.refl _ _⟩
    refine rel_cons (Φ := Hop _ _ _ _ _ _ _) (k := 29) ?_ ?_
    · intro fa fw hfB hfN hfk hft
      have k59 : (NewBat w5.heap.size) (fa.eval (.tmp 59)) fw := by have := hfk 27 (mem_needs (by kernel_rfl)) _ rfl; rw [hRs] at this; exact this
      have k60 : fa.eval (.tmp 60) = (.slice p1 a.length cap1) := by have := hfk 28 (mem_needs (by kernel_rfl)) _ rfl; rw [hRs] at this; exact this
      have k57 : fa.eval (.tmp 57) = (.bool true) := by have := hfk 25 (mem_needs (by kernel_rfl)) _ rfl; rw [hRs] at this; exact this
      rw [hRs]
      have kg := get_bool (show fa.tmps.getD 57 undef = .bool true from k57)
      refine hop_guard rfl (by simp [yielded, kg]) ?_
      obtain ⟨B, hb1, hb2, hb3⟩ := k59
      have hown0 : fw.ownsRow w5.heap.size 9 1 (.slice (some ⟨B, 0, none⟩) 0 0) 0 [] := ⟨rfl, .inr ⟨B, 0, #[], rfl, hb2, hb3, Nat.le_refl _, by decide, rfl, rfl⟩⟩
      obtain ⟨v', w', hr, ho, hg⟩ := run_append_strs fw w5.heap.size _ 0 [] _ a hown0 (hsa.below hfB) (by omega) hfN
      refine out_append (.tmp 59) (.tmp 60) 23 rfl hb1 k60 hr ⟨(show Row9 w5.heap.size a.length a v' w' from ⟨by simpa using ho⟩), ?_⟩
      exact (Below.refl _ _).grown hg hfN (fun k hk => (hown0.lt k hk).1)
    refine rel_cons (Φ := Hop _ _ _ _ _ _ _) (k := 30) ?_ ?_
    · intro fa fw hfB hfN hfk hft
      have k1 : fa.eval (.tmp 1) = .slice p2 b.length cap2 := hft 1 (mem_looks (by kernel_rfl)) (noneed (by kernel_rfl))
      have k57 : fa.eval (.tmp 57) = (.bool true) := by have := hfk 25 (mem_needs (by kernel_rfl)) _ rfl; rw [hRs] at this; exact this
      rw [hRs]
      have kg := get_bool (show fa.tmps.getD 57 undef = .bool true from k57)
      refine hop_guard rfl (by simp [yielded, kg]) ?_
      refine out_move rfl ?_
      exact ⟨k1, Below.refl _ _⟩
    refine rel_cons (Φ := Hop _ _ _ _ _ _ _) (k := 31) ?_ ?_
    · intro fa fw hfB hfN hfk hft
      have k61 : (Row9 w5.heap.size (a.length) (a)) (fa.eval (.tmp 61)) fw := by have := hfk 29 (mem_needs (by kernel_rfl)) _ rfl; rw [hRs] at this; exact this
      have k62 : fa.eval (.tmp 62) = (.slice p2 b.length cap2) := by have := hfk 30 (mem_needs (by kernel_rfl)) _ rfl; rw [hRs] at this; exact this
      have k57 : fa.eval (.tmp 57) = (.bool true) := by have := hfk 25 (mem_needs (by kernel_rfl)) _ rfl; rw [hRs] at this; exact this
      rw [hRs]
      have kg := get_bool (show fa.tmps.getD 57 undef = .bool true from k57)
      refine hop_guard rfl (by simp [yielded, kg]) ?_
      obtain ⟨ho0⟩ := k61
      obtain ⟨v', w', hr, ho, hg⟩ := run_append_strs fw w5.heap.size _ a.length (a.map Value.string) _ b ho0 (hsb.below hfB) (by omega) hfN
      refine out_append (.tmp 61) (.tmp 62) 23 rfl rfl k62 hr ⟨(show Row9 w5.heap.size (a.length + b.length) (a ++ b) v' w' from ⟨by simpa using ho⟩), ?_⟩
      exact (Below.refl _ _).grown hg hfN (fun k hk => (ho0.lt k hk).1)
    refine rel_cons (Φ := Hop _ _ _ _ _ _ _) (k := 32) ?_ ?_
    · intro fa fw hfB hfN hfk hft
      have k58 : fa.eval (.tmp 58) = (.slice p8 (a.length + b.length) cap8) := by have := hfk 26 (mem_needs (by kernel_rfl)) _ rfl; rw [hRs] at this; exact this
      have k63 : (Row9 w5.heap.size (a.length + b.length) (a ++ b)) (fa.eval (.tmp 63)) fw := by have := hfk 31 (mem_needs (by kernel_rfl)) _ rfl; rw [hRs] at this; exact this
      have k57 : fa.eval (.tmp 57) = (.bool true) := by have := hfk 25 (mem_needs (by kernel_rfl)) _ rfl; rw [hRs] at this; exact this
      rw [hRs]
      have kg := get_bool (show fa.tmps.getD 57 undef = .bool true from k57)
      refine hop_guard rfl (by simp [yielded, kg]) ?_
      obtain ⟨ho0⟩ := k63
      have hc := strs_same _ _ (a ++ b) fw (hsl.below hfB) (Strs.ofRow ho0)
      have kf : fa.eval (.func 18) = .func (.func 18) #[] #[] := rfl
      refine out_call (f := 18) (args := #[.slice p8 (a.length + b.length) cap8, fa.eval (.tmp 63)]) (by generalize fa.eval = ρ at *; simp [execOp, k58, kf, go_sem]) ?_
      refine hc.mono ?_
      rintro e w' ⟨rfl, k, rfl⟩
      exact ⟨_, rfl, rfl, below_drewN (Below.refl _ _) k⟩
    refine rel_cons (Φ := Hop _ _ _ _ _ _ _) (k := 33) ?_ ?_
    · intro fa fw hfB hfN hfk hft
      have k57 : fa.eval (.tmp 57) = (.bool true) := by have := hfk 25 (mem_needs (by kernel_rfl)) _ rfl; rw [hRs] at this; exact this
      have k64 : fa.eval (.tmp 64) = (.bool true) := by have := hfk 32 (mem_needs (by kernel_rfl)) _ rfl; rw [hRs] at this; exact this
      rw [hRs]
      refine hop_plain rfl ?_
      have kc : ∀ v, fa.eval (.const v) = v := fun _ => rfl
      generalize fa.eval = ρ at *
      exact out_run (v := .bool true) (w' := fw) (by simp [execOp, kc, k57, k64, go_sem]) ⟨rfl, Below.refl _ _⟩
    refine rel_cons (Φ := Hop _ _ _ _ _ _ _) (k := 34) ?_ ?_
    · intro fa fw hfB hfN hfk hft
      have k65 : fa.eval (.tmp 65) = (.bool true) := by have := hfk 33 (mem_needs (by kernel_rfl)) _ rfl; rw [hRs] at this; exact this
      rw [hRs]
      refine hop_plain rfl ?_
      refine out_assign rfl ?_
      exact ⟨k65, Below.refl _ _⟩
    exact rel_nil
  · intro fa fw hfB hfy hff hfs hfd
    rw [hRs] at hfy
    have k4 : fa.eval (.tmp 4) = (.bool true) := hfy 34 _ rfl (unkilled (by decide))
    have HBf := Lib.hid (hB1.drew.trans (hfB.mono hB1.size))
    have e := rel_frame [32, 33, 34, 35, 36, 37, 38, 39, 40, 41, 42, 43, 44, 45, 46, 47, 48, 49, 50, 51, 52, 53, 54, 55, 56, 57, 58, 59, 60, 61, 62, 63, 64, 65, 4] (by kernel_rfl) hff hfs hfd
    simp only [List.foldl] at e
    rw [show fa.tmps.getD 4 undef = .bool true from k4] at e
    clear hfy hff hfs hfd k4
    generalize fa.tmps.getD 32 undef = x32 at e
    generalize fa.tmps.getD 33 undef = x33 at e
    generalize fa.tmps.getD 34 undef = x34 at e
    generalize fa.tmps.getD 35 undef = x35 at e
    generalize fa.tmps.getD 36 undef = x36 at e
    generalize fa.tmps.getD 37 undef = x37 at e
    generalize fa.tmps.getD 38 undef = x38 at e
    generalize fa.tmps.getD 39 undef = x39 at e
    generalize fa.tmps.getD 40 undef = x40 at e
    generalize fa.tmps.getD 41 undef = x41 at e
    generalize fa.tmps.getD 42 undef = x42 at e
    generalize fa.tmps.getD 43 undef = x43 at e
    generalize fa.tmps.getD 44 undef = x44 at e
    generalize fa.tmps.getD 45 undef = x45 at e
    generalize fa.tmps.getD 46 undef = x46 at e
    generalize fa.tmps.getD 47 undef = x47 at e
    generalize fa.tmps.getD 48 undef = x48 at e
    generalize fa.tmps.getD 49 undef = x49 at e
    generalize fa.tmps.getD 50 undef = x50 at e
    generalize fa.tmps.getD 51 undef = x51 at e
    generalize fa.tmps.getD 52 undef = x52 at e
    generalize fa.tmps.getD 53 undef = x53 at e
    generalize fa.tmps.getD 54 undef = x54 at e
    generalize fa.tmps.getD 55 undef = x55 at e
    generalize fa.tmps.getD 56 undef = x56 at e
    generalize fa.tmps.getD 57 undef = x57 at e
    generalize fa.tmps.getD 58 undef = x58 at e
    generalize fa.tmps.getD 59 undef = x59 at e
    generalize fa.tmps.getD 60 undef = x60 at e
    generalize fa.tmps.getD 61 undef = x61 at e
    generalize fa.tmps.getD 62 undef = x62 at e
    generalize fa.tmps.getD 63 undef = x63 at e
    generalize fa.tmps.getD 64 undef = x64 at e
    generalize fa.tmps.getD 65 undef = x65 at e
    simp [List.setIfInBounds_toArray, List.set_cons_succ, List.set_cons_zero] at e
    subst e
    go_wp2_with fail
    go_ret
    exact ⟨rfl, HBf.out⟩
theorem frame_joins (u1 u2 : Value) (a b : List ByteArray) (w : World) (h1 : Strs w u1 a) (hz1 : ∀ s ∈ a, s.size ≤ 140737488351232) (h2 : Strs w u2 b) (hz2 : ∀ s ∈ b, s.size ≤ 140737488351232) : Calls Try.prog 9 #[u1, u2] w (LawEnd w) := by
  cases ha : isGreat a with
  | true => exact joins_great u1 u2 a b w h1 hz1 h2 hz2 (.inl ha)
  | false =>
    cases hb : isGreat b with
    | true => exact joins_great u1 u2 a b w h1 hz1 h2 hz2 (.inr hb)
    | false => exact joins_some u1 u2 a b w h1 hz1 h2 hz2 ha hb
end Go.Proofs.Ytcbddkncaeancaa
