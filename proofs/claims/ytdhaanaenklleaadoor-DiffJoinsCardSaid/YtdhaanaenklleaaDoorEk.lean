/- Walks: the statement DiffJoins. -/
import Derived.Test.YtdhaanaenklleaaDoorEi
import Derived.Deep.Onto
namespace Go.Proofs.YtdhaanaenklleaaDoor
set_option linter.unusedVariables false
set_option linter.unusedSimpArgs false
open Go.ChangeShapes Go.WideShapes Go.ChangeAt Go.RowKit

theorem run_append_none_cap {P : Program} {w : World} (base : Nat) (t ty e : TypeId) (i : TypeInfo) (size c : Nat) (ht : P.underlying t = some (.slice e)) (hi : P.info? e = some i)
    (v : Value) (n : Nat) (xs : List Value) (hown : w.ownsRow base e size v n xs) :
    (Builtin.append_ #[t, t] ty #[v, .slice none 0 c]).run P w = .ok v w := by
  rcases hown.2 with ⟨rfl, rfl⟩ | ⟨g, cap, cur, rfl, _, _, hnc, _⟩
  · simp [Builtin.append_, run_underlying ht, sizeOf, typeInfo, hi, Builtin.lenOf, Builtin.firstCells]
  · simp [Builtin.append_, run_underlying ht, sizeOf, typeInfo, hi, Builtin.lenOf, Builtin.firstCells, hnc, storeCells]
theorem add_off (b o i : Nat) : (⟨b, o, none⟩ : Addr).add i = ⟨b, o + i, none⟩ := by unfold Addr.add; split <;> simp_all
theorem flatD_app (a b : List D.Chg) : flatD (a ++ b) = flatD a ++ flatD b := by simp [flatD]
theorem flatD_one' {l : List D.Chg} {u : Value} (h : u ∈ flatD l) : u.oneCell' = true := by
  obtain ⟨c, _, hc⟩ := List.mem_flatMap.1 h
  simp at hc
  rcases hc with rfl | rfl <;> rfl
/-- Changes that lie in memory from a place on. -/
def ChgAt (w : World) (u : Value) (l : List D.Chg) : Prop := (∃ p cap, u = .slice p 0 cap ∧ l = []) ∨ ∃ b off cap, u = .slice (some ⟨b, off, none⟩) l.length cap ∧ b < w.heap.size ∧ l.length ≤ cap ∧ cap ≤ maxLen ∧ ∀ j x, (flatD l)[j]? = some x → w.cell? ⟨b, off + j, none⟩ = some x
theorem ChgAt.below {w w' : World} {u : Value} {l : List D.Chg} (h : ChgAt w u l) (hB : Below w.heap.size w w') : ChgAt w' u l := by
  rcases h with h | ⟨b, off, cap, h1, h2, h3, h4, h5⟩
  · exact .inl h
  · exact .inr ⟨b, off, cap, h1, Nat.lt_of_lt_of_le h2 hB.size, h3, h4, fun j x hx => (hB.cell (p := ⟨b, off + j, none⟩) h2).trans (h5 j x hx)⟩
theorem ChgAt.own {w : World} {base : Nat} {v : Value} {l : List D.Chg} (h : w.ownsRow base 77 2 v l.length (flatD l)) : ChgAt w v l := by
  rcases h.2 with ⟨hv, hn⟩ | ⟨g, cap, cur, hv, _, hg, hcap, hmax, hsz, htake⟩
  · exact .inl ⟨_, _, hv, List.eq_nil_of_length_eq_zero hn⟩
  · refine .inr ⟨g, 0, cap, hv, lt_of_block hg, hcap, hmax, fun j x hx => ?_⟩
    have hj := (List.getElem?_eq_some_iff.1 hx).1
    rw [flatD_len] at hj
    rw [block_cell hg, ← hx, ← htake, List.getElem?_take_of_lt (by omega), Array.getElem?_toList]
    congr 1
    omega
theorem run_append_chg (w : World) (base : Nat) (v : Value) (n : Nat) (xs : List Value) (u : Value) (l : List D.Chg) (hown : w.ownsRow base 77 2 v n xs) (hu : ChgAt w u l) (hb : (n + l.length) * 24 ≤ 140737488355328) (hbase : base ≤ w.heap.size) :
    ∃ v' w', (Builtin.append_ #[73, 73] 73 #[v, u]).run Tryd.prog w = .ok v' w' ∧ w'.ownsRow base 77 2 v' (n + l.length) (xs ++ flatD l) ∧ w.grownBy w' v.ownBlock := by
  obtain ⟨i0, hi, hz0, hz1, hz2⟩ := info_parts (z := .agg #[.string ⟨#[]⟩, .int .i64 0]) (size := 2) (bytes := 24) (show (Tryd.prog.info? 77).map (fun i => (i.zero, i.size, i.bytes)) = _ by kernel_rfl)
  rcases hu with ⟨p, cap, rfl, rfl⟩ | ⟨b, off, cap, rfl, hb2, hcap, hmax, hcell⟩
  · cases p with
    | none => exact ⟨v, w, run_append_none_cap base 73 73 77 i0 2 cap Tryd.underlying73 hi v n xs hown, by simpa [flatD] using hown, World.grownBy.refl _ _⟩
    | some ad =>
      obtain ⟨v', w', h1, h2, h3, _⟩ := run_append_own_at (P := Tryd.prog) w base 73 73 77 i0 (.agg #[.string ⟨#[]⟩, .int .i64 0]) 2 24 Tryd.underlying73 hi hz0 hz1 hz2 rfl (by decide) v n xs hown ad 0 cap [] rfl (fun j u h => by simp at h) (fun u h => by simp at h) (by unfold maxLen; simp at hb; omega) (by simpa using hb) hbase
      exact ⟨v', w', h1, by simpa [flatD] using h2, h3⟩
  · obtain ⟨v', w', h1, h2, h3, _⟩ := run_append_own_at (P := Tryd.prog) w base 73 73 77 i0 (.agg #[.string ⟨#[]⟩, .int .i64 0]) 2 24 Tryd.underlying73 hi hz0 hz1 hz2 rfl (by decide) v n xs hown ⟨b, off, none⟩ l.length cap (flatD l) (by rw [flatD_len]) (fun j y hj => by
      rw [add_off]; exact hcell j y hj) (fun y hy => flatD_one' hy) (by unfold maxLen; omega) hb hbase
    exact ⟨v', w', h1, h2, h3⟩
theorem wpList_append_chg {w : World} {ops : Array Oper} {rest : List Oper} {o : Oper} {a : Act} {Q : Exit → Act → World → Prop} (hgd : o.guard = none) (s x : Operand)
    (ho : o.op = .call { callee := .builtin .append, args := #[s, x], argTypes := #[73, 73] }) (hty : o.type = 73) (base : Nat) (v : Value) (xs : List D.Chg) (hs : a.eval s = v) (hown : w.ownsRow base 77 2 v xs.length (flatD xs))
    (u : Value) (l : List D.Chg) (hu : ChgAt w u l) (hx : a.eval x = u) (hb : (xs.length + l.length) * 24 ≤ 140737488355328) (hbase : base ≤ w.heap.size)
    (h : ∀ v' w', w'.ownsRow base 77 2 v' (xs ++ l).length (flatD (xs ++ l)) → w.grownBy w' v.ownBlock → wpList Tryd.prog ops Q rest (a.put o.dst v') w') : wpList Tryd.prog ops Q (o :: rest) a w := by
  obtain ⟨v', w', h1, h2, h3⟩ := run_append_chg w base v _ _ u l hown hu hb hbase
  refine wpList_plain hgd fun K hK => ?_
  unfold Oper.wp execOp
  simp only [ho, hty, resolve, invoke, builtin, Sem.run_bind, Sem.run_pure, Result.andThen_ok, List.map_toArray, List.map_cons, List.map_nil, hs, hx]
  rw [h1]
  exact hK _ _ (h v' w' (by rw [List.length_append, flatD_app]; exact h2) h3)

def hasP (l : List D.Chg) (z : ByteArray) : Bool := l.any fun y => decide (z = y.1)
theorem hasP_next {l : List D.Chg} {j : Nat} (h : j < l.length) (z : ByteArray) : hasP (l.take (j + 1)) z = (hasP (l.take j) z || decide (z = l[j].1)) := by
  unfold hasP
  rw [List.take_succ_eq_append_getElem h, List.any_append]
  simp
theorem joins_has {a b c : List Inp} (ha : D.Ris cmpP a) (hb : D.Ris cmpP b) (hc : D.Ris cmpP c) {x : D.Chg} (hx : x ∈ D.merge cmpP a c) : hasP (D.merge cmpP a b ++ D.merge cmpP b c) x.1 = true := by
  unfold hasP
  rw [List.any_eq_true]
  rcases D.merge_joins cmpP_cm ha hb hc hx with ⟨y, hy, e⟩ | ⟨y, hy, e⟩
  · exact ⟨y, List.mem_append_left _ hy, decide_eq_true e⟩
  · exact ⟨y, List.mem_append_right _ hy, decide_eq_true e⟩

set_option maxRecDepth 100000 in
set_option maxHeartbeats 4000000 in
theorem joins_any (v u t : Value) (a b c : List Inp) (w : World) (hM : MaxAt w) (hv : Rows w 33 inpR v a) (hu : Rows w 33 inpR u b) (ht : Rows w 33 inpR t c) :
    Calls Tryd.prog 12 #[v, u, t] w (LawEnd w) := by
  have HA := Lib.hid (fun w1 (h1 : Below w.heap.size w w1) => alive_any w1 (hM.below h1))
  have HOa := Lib.hid (fun w1 (h1 : Below w.heap.size w w1) => odd_any v a w1 (hv.below h1))
  have HOb := Lib.hid (fun w1 (h1 : Below w.heap.size w w1) => odd_any u b w1 (hu.below h1))
  have HOc := Lib.hid (fun w1 (h1 : Below w.heap.size w w1) => odd_any t c w1 (ht.below h1))
  cases ea : oddB a with
  | true =>
    rw [ea] at HOa
    clear hM hv hu ht HOb HOc
    go_enter Tryd.func12, Tryd.ntmps12
    go_wp2_with fail
    refine (HA.out _ (Below.refl _ _)).mono ?_
    rintro e w1 ⟨rfl, hB1⟩
    go_wp2_with fail
    refine (HOa.out _ hB1).mono ?_
    rintro e w2 ⟨rfl, hB2⟩
    replace hB1 := hB1.trans (hB2.mono hB1.size)
    clear hB2
    go_wp2_with fail
    go_ret
    exact ⟨rfl, hB1⟩
  | false =>
    cases eb : oddB b with
    | true =>
      rw [ea] at HOa
      rw [eb] at HOb
      clear hM hv hu ht HOc
      go_enter Tryd.func12, Tryd.ntmps12
      go_wp2_with fail
      refine (HA.out _ (Below.refl _ _)).mono ?_
      rintro e w1 ⟨rfl, hB1⟩
      go_wp2_with fail
      refine (HOa.out _ hB1).mono ?_
      rintro e w2 ⟨rfl, hB2⟩
      replace hB1 := hB1.trans (hB2.mono hB1.size)
      clear hB2
      go_wp2_with fail
      refine (HOb.out _ hB1).mono ?_
      rintro e w2 ⟨rfl, hB2⟩
      replace hB1 := hB1.trans (hB2.mono hB1.size)
      clear hB2
      go_wp2_with fail
      go_ret
      exact ⟨rfl, hB1⟩
    | false =>
      cases ec : oddB c with
      | true =>
        rw [ea] at HOa
        rw [eb] at HOb
        rw [ec] at HOc
        clear hM hv hu ht
        go_enter Tryd.func12, Tryd.ntmps12
        go_wp2_with fail
        refine (HA.out _ (Below.refl _ _)).mono ?_
        rintro e w1 ⟨rfl, hB1⟩
        go_wp2_with fail
        refine (HOa.out _ hB1).mono ?_
        rintro e w2 ⟨rfl, hB2⟩
        replace hB1 := hB1.trans (hB2.mono hB1.size)
        clear hB2
        go_wp2_with fail
        refine (HOb.out _ hB1).mono ?_
        rintro e w2 ⟨rfl, hB2⟩
        replace hB1 := hB1.trans (hB2.mono hB1.size)
        clear hB2
        go_wp2_with fail
        refine (HOc.out _ hB1).mono ?_
        rintro e w2 ⟨rfl, hB2⟩
        replace hB1 := hB1.trans (hB2.mono hB1.size)
        clear hB2
        go_wp2_with fail
        go_ret
        exact ⟨rfl, hB1⟩
      | false =>
        obtain ⟨ra, za, la⟩ := odd_ris ea
        obtain ⟨rb, zb, lb⟩ := odd_ris eb
        obtain ⟨rc, zc, lc⟩ := odd_ris ec
        rw [ea] at HOa
        rw [eb] at HOb
        rw [ec] at HOc
        have HL := Lib.hid (fun w1 (h1 : Below w.heap.size w w1) => lists_any v u a b w1 (hM.below h1) (hv.below h1) (hu.below h1) (fun x hx => by have := za x hx; omega) (fun x hx => by have := zb x hx; omega) (by omega))
        have HK := Lib.hid (fun w1 (h1 : Below w.heap.size w w1) => lists_any u t b c w1 (hM.below h1) (hu.below h1) (ht.below h1) (fun x hx => by have := zb x hx; omega) (fun x hx => by have := zc x hx; omega) (by omega))
        have HN := Lib.hid (fun w1 (h1 : Below w.heap.size w w1) => lists_any v t a c w1 (hM.below h1) (hv.below h1) (ht.below h1) (fun x hx => by have := za x hx; omega) (fun x hx => by have := zc x hx; omega) (by omega))
        have Hj := Lib.hid (fun x hx => joins_has ra rb rc (x := x) hx)
        have Hk1 := Lib.hid (fun x (hx : x ∈ D.merge cmpP a b) => merge_kind ra rb hx)
        have Hk2 := Lib.hid (fun x (hx : x ∈ D.merge cmpP b c) => merge_kind rb rc hx)
        have Hk3 := Lib.hid (fun x (hx : x ∈ D.merge cmpP a c) => merge_kind ra rc hx)
        have Hz1 := Lib.hid (fun x (hx : x ∈ D.merge cmpP a b) => merge_size za zb hx)
        have Hz2 := Lib.hid (fun x (hx : x ∈ D.merge cmpP b c) => merge_size zb zc hx)
        have Hz3 := Lib.hid (fun x (hx : x ∈ D.merge cmpP a c) => merge_size za zc hx)
        have Hm1 := Lib.hid (show (D.merge cmpP a b).length ≤ 120 by have := merge_len _ a b (Nat.le_refl _); omega)
        have Hm2 := Lib.hid (show (D.merge cmpP b c).length ≤ 120 by have := merge_len _ b c (Nat.le_refl _); omega)
        have Hm3 := Lib.hid (show (D.merge cmpP a c).length ≤ 120 by have := merge_len _ a c (Nat.le_refl _); omega)
        clear hM hv hu ht ra rb rc za zb zc la lb lc ea eb ec
        generalize D.merge cmpP a b = L at *
        generalize D.merge cmpP b c = M at *
        generalize D.merge cmpP a c = K at *
        obtain ⟨n, hn⟩ : ∃ n, n = K.length := ⟨_, rfl⟩
        obtain ⟨m, hm⟩ : ∃ m, m = (L ++ M).length := ⟨_, rfl⟩
        have Hn := Lib.hid hn
        have Hm := Lib.hid hm
        clear hn hm
        go_enter Tryd.func12, Tryd.ntmps12
        go_wp2_with fail
        refine (HA.out _ (Below.refl _ _)).mono ?_
        rintro e w1 ⟨rfl, hB1⟩
        go_wp2_with fail
        refine (HOa.out _ hB1).mono ?_
        rintro e w2 ⟨rfl, hB2⟩
        replace hB1 := hB1.trans (hB2.mono hB1.size)
        clear hB2
        go_wp2_with fail
        refine (HOb.out _ hB1).mono ?_
        rintro e w2 ⟨rfl, hB2⟩
        replace hB1 := hB1.trans (hB2.mono hB1.size)
        clear hB2
        go_wp2_with fail
        refine (HOc.out _ hB1).mono ?_
        rintro e w2 ⟨rfl, hB2⟩
        replace hB1 := hB1.trans (hB2.mono hB1.size)
        clear hB2
        go_wp2_with fail
        refine (HL.out _ hB1).mono ?_
        rintro e w4 ⟨vl, rfl, hol, hB2⟩
        have hbs := hB1.size
        replace hB1 := hB1.trans (hB2.mono hB1.size)
        have hbs4 := hB2.size
        have hol' := World.ownsRow.mono hol hbs
        clear hB2 hol
        go_wp2_with fail
        refine (HK.out _ hB1).mono ?_
        rintro e w5 ⟨vm, rfl, hom, hB2⟩
        have HO := Lib.hid (own_below hol' hB2)
        have HU := Lib.hid (ChgAt.own hom)
        replace hB1 := hB1.trans (hB2.mono hB1.size)
        have HB5 := Lib.hid hB1
        clear hB1 hB2 hom hol'
        go_wp2_with (at_builtin; go_must (refine wpList_append_chg rfl (.tmp 27) (.tmp 30) rfl rfl w.heap.size _ L rfl HO.out _ M HU.out rfl (by have := Hm1.out; have := Hm2.out; omega) HB5.out.size ?_); intro vb w6 hown6 hgrow6; have Hown6 := Lib.hid hown6; have HB6 := Lib.hid (HB5.out.grown hgrow6 HB5.out.size (fun q hq => (HO.out.lt q hq).1)); clear hown6 hgrow6)
        refine (HN.out _ HB6.out).mono ?_
        rintro e w7 ⟨vk, rfl, hok, hB2⟩
        have hrk := rows_of_own hok (fun x hx => by have := Hz3.out x hx; omega) Hk3.out
        have hrb := (rows_of_own Hown6.out (fun x hx => by
          rcases List.mem_append.1 hx with h | h
          · have := Hz1.out x h; omega
          · have := Hz2.out x h; omega) (fun x hx => by
          rcases List.mem_append.1 hx with h | h
          · exact Hk1.out x h
          · exact Hk2.out x h)).below hB2
        have HB7 := Lib.hid (HB6.out.trans (hB2.mono HB6.out.size))
        obtain ⟨pk, ck, rfl, hpk⟩ := hrk.chg Hn.out
        obtain ⟨pb, cb, rfl, hpb⟩ := hrb.chg Hm.out
        have Hpk := Lib.hid hpk
        have Hpb := Lib.hid hpb
        have hn120 : n ≤ 120 := by have := Hm3.out; have := Hn.out; omega
        have hm240 : m ≤ 240 := by have := Hm1.out; have := Hm2.out; have := Hm.out; rw [List.length_append] at this; omega
        clear hB2 hok hrk hrb hpk hpb
        go_wp2_with fail
        go_loopg [36] n (fun g iv wr => ∃ k : Nat, k + g = n ∧ iv = .int .i64 k ∧ Below w7.heap.size w7 wr)
        case atStart => exact ⟨0, by omega, rfl, Below.refl _ _⟩
        case round =>
          obtain ⟨k, hkg, rfl, hB⟩ := hrel
          by_cases hlt : k < n
          · have hltI : (k : Int) < (n : Int) := by omega
            have hkl : k < K.length := by have := Hn.out; omega
            obtain ⟨g1, o1, rfl, hg1, hcap1, hmax1, hcell1⟩ := Hpk.out (by omega)
            obtain ⟨k0, k1, hz1, -⟩ := hcell1 k hkl
            have Hx := Lib.hid (Hj.out _ (List.getElem_mem hkl))
            generalize K[k] = x at *
            obtain ⟨z, kd⟩ := x
            simp only at k0 k1 hz1
            replace Hx : Hid (hasP (L ++ M) z = true) := Hx
            have q0 := (hB.cell (p := ⟨g1, o1 + k * 2, none⟩) hg1).trans k0
            have q1 := (hB.cell (p := ⟨g1, o1 + k * 2 + 1, none⟩) hg1).trans k1
            have HBr := Lib.hid hB
            have hbo : w7.heap.size ≤ wr.heap.size := hB.size
            clear hcell1 k0 k1 hB
            obtain ⟨gko, rfl⟩ : ∃ g, g = gk := ⟨gk, rfl⟩
            obtain ⟨wo, rfl⟩ : ∃ wo, wo = wr := ⟨wr, rfl⟩
            go_wp2_with fail
            go_loopg [10, 42] m (fun g fv jv wr => ∃ j : Nat, j + g = m ∧ jv = .int .i64 j ∧ fv = .bool (hasP ((L ++ M).take j) z) ∧ Below (wo.alloc (.cells #[.string z, .int .i64 kd] 77)).heap.size (wo.alloc (.cells #[.string z, .int .i64 kd] 77)) wr)
            case atStart => exact ⟨0, by omega, rfl, rfl, Below.refl _ _⟩
            case round =>
              obtain ⟨j, hjg, rfl, rfl, hB8⟩ := hrel
              by_cases hjm : j < m
              · have hjI : (j : Int) < (m : Int) := by omega
                have hkj : j < (L ++ M).length := by have := Hm.out; omega
                obtain ⟨g2, o2, rfl, hg2, hcap2, hmax2, hcell2⟩ := Hpb.out (by omega)
                obtain ⟨m0, m1, hz2, -⟩ := hcell2 j hkj
                have hnx := hasP_next hkj z
                generalize (L ++ M)[j] = y at *
                obtain ⟨y, kd2⟩ := y
                simp only at m0 m1 hz2 hnx
                have hb8 : Below w7.heap.size w7 wr := (HBr.out.alloc HBr.out.size _).trans (hB8.mono (by simp; omega))
                have q2 := (hb8.cell (p := ⟨g2, o2 + j * 2, none⟩) hg2).trans m0
                have q3 := (hb8.cell (p := ⟨g2, o2 + j * 2 + 1, none⟩) hg2).trans m1
                have q4 : wr.cell? ⟨wo.heap.size, 0, none⟩ = some (.string z) := (hB8.cell (p := ⟨wo.heap.size, 0, none⟩) (by simp)).trans (block_cell (t := 77) (cur := #[.string z, .int .i64 kd]) (by show (wo.heap.push _)[wo.heap.size]? = _; simp) 0)
                have hlo : wo.heap.size < wr.heap.size := by have := hB8.size; simp at this; omega
                have HB9 := Lib.hid (hB8.alloc hB8.size (.cells #[.string y, .int .i64 kd2] 77))
                have Hnx := Lib.hid hnx
                clear hnx hcell2 m0 m1 hb8 hB8
                cases hf : hasP ((L ++ M).take j) z with
                | true =>
                  rw [hf] at Hnx
                  clear hf
                  go_wp2_with fail
                  go_roundg (gk - 1)
                  case measure => omega
                  case rel => exact ⟨j + 1, by omega, by go_num, by rw [Hnx.out]; rfl, HB9.out⟩
                | false =>
                  rw [hf] at Hnx
                  clear hf
                  by_cases hzy : z = y
                  · have hsb := beq_of hzy
                    have Hzy := Lib.hid hzy
                    clear hzy
                    go_wp2_with fail
                    go_roundg (gk - 1)
                    case measure => omega
                    case rel => exact ⟨j + 1, by omega, by go_num, by rw [Hnx.out, decide_eq_true Hzy.out]; rfl, HB9.out⟩
                  · have hsb := beq_of_ne hzy
                    have Hzy := Lib.hid hzy
                    clear hzy
                    go_wp2_with fail
                    go_roundg (gk - 1)
                    case measure => omega
                    case rel => exact ⟨j + 1, by omega, by go_num, by rw [Hnx.out, decide_eq_false Hzy.out]; rfl, HB9.out⟩
              · obtain rfl : j = m := by omega
                have hjI : ¬ (j : Int) < (j : Int) := by omega
                rw [show hasP ((L ++ M).take j) z = true by rw [Hm.out, List.take_length]; exact Hx.out]
                have HBo := Lib.hid ((HBr.out.alloc HBr.out.size (.cells #[.string z, .int .i64 kd] 77)).trans (hB8.mono (by simp; omega)))
                clear hB8
                go_wp2_with fail
                go_roundg (gko - 1)
                case measure => omega
                case rel => exact ⟨k + 1, by omega, by go_num, HBo.out⟩
          · have hnI : ¬ (k : Int) < (n : Int) := by omega
            have hw := HB7.out.trans (hB.mono HB7.out.size)
            clear hB
            go_wp2_with fail
            go_ret
            exact ⟨rfl, hw⟩
end Go.Proofs.YtdhaanaenklleaaDoor
