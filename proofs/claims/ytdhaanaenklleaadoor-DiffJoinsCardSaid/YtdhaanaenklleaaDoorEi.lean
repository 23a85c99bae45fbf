/- Walks: the statement DiffBack. -/
import Derived.Test.YtdhaanaenklleaaDoorEh
namespace Go.Proofs.YtdhaanaenklleaaDoor
set_option linter.unusedVariables false
set_option linter.unusedSimpArgs false
open Go.ChangeShapes Go.WideShapes Go.ChangeAt Go.RowKit

/-- A change in a list in memory. -/
theorem Rows.chg {w : World} {v : Value} {l : List D.Chg} {n : Nat} (hn : n = l.length) (h : Rows w 2 chgR v (l.map toC)) :
    ∃ p cap, v = .slice p n cap ∧ (0 < n → ∃ g o, p = some ⟨g, o, none⟩ ∧ g < w.heap.size ∧ n ≤ cap ∧ cap ≤ 9223372036854775807 ∧
      ∀ k, ∀ hk : k < l.length, w.cell? ⟨g, o + k * 2, none⟩ = some (.string l[k].1) ∧ w.cell? ⟨g, o + k * 2 + 1, none⟩ = some (.int .i64 l[k].2) ∧ l[k].1.size ≤ 140737488351232 ∧ (Lit.int .i64 l[k].2).wf = true) := by
  subst hn
  obtain ⟨p, cap, hv, hp⟩ := h.shape
  refine ⟨p, cap, by rw [hv, List.length_map], fun h0 => ?_⟩
  obtain ⟨g, o, hp1, hg, hcap, hmax, hcell⟩ := hp (by rw [List.length_map]; exact h0)
  refine ⟨g, o, hp1, hg, by rw [List.length_map] at hcap; exact hcap, by unfold maxLen at hmax; omega, fun k hk => ?_⟩
  obtain ⟨x, hx, hxl, hat⟩ := hcell k (toC l[k]) (by rw [List.getElem?_map, List.getElem?_eq_getElem hk]; rfl)
  obtain ⟨rfl, h1, h2⟩ := chg_cells hx
  exact ⟨by simpa [toC] using hat 0 (by decide), by simpa [toC] using hat 1 (by decide), h1, h2⟩
theorem back_at {a b : List Inp} {k : Nat} (h1 : k < (D.merge cmpP a b).length) (h2 : k < (D.merge cmpP b a).length) : (D.merge cmpP b a)[k] = D.back (D.merge cmpP a b)[k] := by
  have e := D.merge_back cmpP_cm _ a b (Nat.le_refl _)
  have : (D.merge cmpP b a)[k]? = ((D.merge cmpP a b).map D.back)[k]? := by rw [e]
  rw [List.getElem?_eq_getElem h2, List.getElem?_map, List.getElem?_eq_getElem h1] at this
  exact Option.some.inj this
theorem back_len (a b : List Inp) : (D.merge cmpP b a).length = (D.merge cmpP a b).length := by rw [D.merge_back cmpP_cm _ a b (Nat.le_refl _), List.length_map]
set_option maxRecDepth 100000 in
set_option maxHeartbeats 4000000 in
theorem back_any (v u : Value) (a b : List Inp) (w : World) (hM : MaxAt w) (hv : Rows w 33 inpR v a) (hu : Rows w 33 inpR u b) :
    Calls Tryd.prog 11 #[v, u] w (LawEnd w) := by
  have HA := Lib.hid (fun w1 (h1 : Below w.heap.size w w1) => alive_any w1 (hM.below h1))
  have HOa := Lib.hid (fun w1 (h1 : Below w.heap.size w w1) => odd_any v a w1 (hv.below h1))
  have HOb := Lib.hid (fun w1 (h1 : Below w.heap.size w w1) => odd_any u b w1 (hu.below h1))
  cases ea : oddB a with
  | true =>
    rw [ea] at HOa
    clear hM hv hu HOb
    go_enter Tryd.func11, Tryd.ntmps11
    go_wp2_with fail
    refine (HA.out _ (Below.refl _ _)).mono ?_
    rintro e w1 ⟨rfl, hB1⟩
    go_wp2_with fail
    refine (HOa.out _ hB1).mono ?_
    rintro e w2 ⟨rfl, hB2⟩
    replace hB1 := hB1.trans (hB2.mono hB1.size)
    clear hB2
    go_wp2_with fail
    go_ret
    exact ⟨rfl, hB1⟩
  | false =>
    cases eb : oddB b with
    | true =>
      rw [ea] at HOa
      rw [eb] at HOb
      clear hM hv hu
      go_enter Tryd.func11, Tryd.ntmps11
      go_wp2_with fail
      refine (HA.out _ (Below.refl _ _)).mono ?_
      rintro e w1 ⟨rfl, hB1⟩
      go_wp2_with fail
      refine (HOa.out _ hB1).mono ?_
      rintro e w2 ⟨rfl, hB2⟩
      replace hB1 := hB1.trans (hB2.mono hB1.size)
      clear hB2
      go_wp2_with fail
      refine (HOb.out _ hB1).mono ?_
      rintro e w2 ⟨rfl, hB2⟩
      replace hB1 := hB1.trans (hB2.mono hB1.size)
      clear hB2
      go_wp2_with fail
      go_ret
      exact ⟨rfl, hB1⟩
    | false =>
      obtain ⟨ra, za, la⟩ := odd_ris ea
      obtain ⟨rb, zb, lb⟩ := odd_ris eb
      rw [ea] at HOa
      rw [eb] at HOb
      have Hn := Lib.hid (D.merge_nil cmpP_cm ra rb)
      have HL := Lib.hid (fun w1 (h1 : Below w.heap.size w w1) => lists_any v u a b w1 (hM.below h1) (hv.below h1) (hu.below h1) (fun x hx => by have := za x hx; omega) (fun x hx => by have := zb x hx; omega) (by omega))
      have HK := Lib.hid (fun w1 (h1 : Below w.heap.size w w1) => lists_any u v b a w1 (hM.below h1) (hu.below h1) (hv.below h1) (fun x hx => by have := zb x hx; omega) (fun x hx => by have := za x hx; omega) (by omega))
      have HS := Lib.hid (fun w1 (h1 : Below w.heap.size w w1) => same8_any v u a b w1 (hv.below h1) (hu.below h1))
      have Hk := Lib.hid (fun x (hx : x ∈ D.merge cmpP a b) => merge_kind ra rb hx)
      have Hk2 := Lib.hid (fun x (hx : x ∈ D.merge cmpP b a) => merge_kind rb ra hx)
      have Hz := Lib.hid (fun x (hx : x ∈ D.merge cmpP a b) => merge_size za zb hx)
      have Hz2 := Lib.hid (fun x (hx : x ∈ D.merge cmpP b a) => merge_size zb za hx)
      have Hat := Lib.hid (fun k h1 h2 => back_at (a := a) (b := b) (k := k) h1 h2)
      have Hlen := Lib.hid (back_len a b)
      have Hmx := Lib.hid (show (D.merge cmpP a b).length ≤ 120 by have := merge_len _ a b (Nat.le_refl _); omega)
      clear hM hv hu ra rb za zb la lb ea eb
      generalize D.merge cmpP a b = L at *
      generalize D.merge cmpP b a = M at *
      obtain ⟨n, hn⟩ : ∃ n, n = L.length := ⟨_, rfl⟩
      obtain ⟨s, hs⟩ : ∃ s, s = decide (a = b) := ⟨_, rfl⟩
      rw [← hs] at HS
      have Hs := Lib.hid (show s = decide (n = 0) by
        rw [hs, hn, Bool.eq_iff_iff, decide_eq_true_iff, decide_eq_true_iff, ← Hn.out]
        exact ⟨fun h => by rw [h]; rfl, List.eq_nil_of_length_eq_zero⟩)
      have Hnl := Lib.hid hn
      have Hml := Lib.hid (show M.length = n by rw [Hlen.out, hn])
      clear hs hn
      go_enter Tryd.func11, Tryd.ntmps11
      go_wp2_with fail
      refine (HA.out _ (Below.refl _ _)).mono ?_
      rintro e w1 ⟨rfl, hB1⟩
      go_wp2_with fail
      refine (HOa.out _ hB1).mono ?_
      rintro e w2 ⟨rfl, hB2⟩
      replace hB1 := hB1.trans (hB2.mono hB1.size)
      clear hB2
      go_wp2_with fail
      refine (HOb.out _ hB1).mono ?_
      rintro e w3 ⟨rfl, hB2⟩
      replace hB1 := hB1.trans (hB2.mono hB1.size)
      clear hB2
      go_wp2_with fail
      refine (HL.out _ hB1).mono ?_
      rintro e w4 ⟨vl, rfl, hol, hB2⟩
      have hrl := rows_of_own hol (fun x hx => by have := Hz.out x hx; omega) Hk.out
      replace hB1 := hB1.trans (hB2.mono hB1.size)
      clear hB2 hol
      go_wp2_with fail
      refine (HK.out _ hB1).mono ?_
      rintro e w5 ⟨vm, rfl, hom, hB2⟩
      have hrm := rows_of_own hom (fun x hx => by have := Hz2.out x hx; omega) Hk2.out
      replace hrl := hrl.below hB2
      replace hB1 := hB1.trans (hB2.mono hB1.size)
      clear hB2 hom
      obtain ⟨pl, cl, rfl, hpl⟩ := hrl.chg Hnl.out
      obtain ⟨pm, cm, rfl, hpm⟩ := hrm.chg Hml.out.symm
      have Hpl := Lib.hid hpl
      have Hpm := Lib.hid hpm
      clear hrl hrm hpl hpm
      have hmx : n ≤ 120 := by have := Hmx.out; have := Hnl.out; omega
      have hcs : ∃ r, ((n : Int) == 0) = r ∧ s = r := by
        by_cases h0 : n = 0
        · exact ⟨true, by rw [h0]; rfl, by rw [Hs.out, decide_eq_true h0]⟩
        · exact ⟨false, beq_eq_false_iff_ne.2 (by omega), by rw [Hs.out, decide_eq_false h0]⟩
      obtain ⟨r, hr, rfl⟩ := hcs
      go_wp2_with fail
      refine (HS.out _ hB1).mono ?_
      rintro e w6 ⟨rfl, hB6⟩
      have hB16 := hB1.trans (hB6.mono hB1.size)
      have HB1 := Lib.hid hB1
      have HB6 := Lib.hid hB6
      clear hB1 hB6
      go_wp2_with fail
      go_loopg [40] n (fun g iv wr => ∃ k : Nat, k + g = n ∧ iv = .int .i64 k ∧ Below w5.heap.size w5 wr)
      case atStart => exact ⟨0, by omega, rfl, HB6.out⟩
      case round =>
        obtain ⟨k, hkg, rfl, hB⟩ := hrel
        by_cases hlt : k < n
        · have hltI : (k : Int) < (n : Int) := by omega
          have hkl : k < L.length := by have := Hnl.out; omega
          have hkm : k < M.length := by have := Hml.out; omega
          obtain ⟨g1, o1, rfl, hg1, hcap1, hmax1, hcell1⟩ := Hpl.out (by omega)
          obtain ⟨g2, o2, rfl, hg2, hcap2, hmax2, hcell2⟩ := Hpm.out (by omega)
          obtain ⟨k0, k1, hz1, -⟩ := hcell1 k hkl
          obtain ⟨m0, m1, hz2, hw2⟩ := hcell2 k hkm
          have hkd := Hk.out _ (List.getElem_mem hkl)
          have hbk := Hat.out k hkl hkm
          rw [hbk] at m0 m1 hz2 hw2
          generalize L[k] = c at *
          obtain ⟨z, kd⟩ := c
          simp only [D.back] at k0 k1 hz1 m0 m1 hz2 hw2 hkd
          have q0 := (hB.cell (p := ⟨g1, o1 + k * 2, none⟩) hg1).trans k0
          have q1 := (hB.cell (p := ⟨g1, o1 + k * 2 + 1, none⟩) hg1).trans k1
          have HBr := Lib.hid hB
          have Hw := Lib.hid (HB1.out.trans (hB.mono HB1.out.size))
          clear hbk hcell1 hcell2 k0 k1 hB
          rcases hkd with rfl | rfl | rfl
          · rw [if_neg (by decide)] at m1 hw2
            have heq := fun w1 => eq_chg (x := #[Value.string z, .int .i64 2]) (y := #[Value.string z, .int .i64 2]) (chg_R z 2 hz2 (by decide)) (chg_R z 2 hz2 (by decide)) w1
            rw [decide_eq_true rfl] at heq
            have hBb : Below w5.heap.size w5 (wr.alloc (.cells #[.string z, .int .i64 1] 77)) := HBr.out.alloc HBr.out.size _
            have H1 := Lib.hid (fun w1 (h1 : Below (wr.alloc (.cells #[.string z, .int .i64 1] 77)).heap.size (wr.alloc (.cells #[.string z, .int .i64 1] 77)) w1) => run_loadVar_mid (P := Tryd.prog) w1 g2 (o2 + k * 2) 77 [.string z, .int .i64 2] _ (fun j y hy => by
              have hBB := hBb.trans (h1.mono hBb.size)
              refine (hBB.cell (p := ⟨g2, o2 + k * 2 + j, none⟩) hg2).trans ?_
              match j, hy with
              | 0, hy => rw [← hy]; exact m0
              | 1, hy => rw [← hy]; exact m1
              | j + 2, hy => simp at hy) Tryd.underlying77 rfl (by kernel_rfl))
            have H2 := Lib.hid (fun w1 (h1 : Below (wr.alloc (.cells #[.string z, .int .i64 1] 77)).heap.size (wr.alloc (.cells #[.string z, .int .i64 1] 77)) w1) => (by
              have h := (h1.cell (p := ⟨wr.heap.size, 0, none⟩) (by simp)).trans (block_cell (t := 77) (cur := #[.string z, .int .i64 1]) (by show (wr.heap.push _)[wr.heap.size]? = _; simp) 0)
              simp at h
              simp [go_sem, h] : (loadVar 9 ⟨wr.heap.size, 0, none⟩).run Tryd.prog w1 = .ok (.string z) w1))
            have HW := Lib.hid hBb
            clear hBb m0 m1 hz2 hw2
            go_wp2_with fail
            refine wp_region_class (Below (wr.alloc (.cells #[.string z, .int .i64 1] 77)).heap.size (wr.alloc (.cells #[.string z, .int .i64 1] 77))) (by kernel_rfl) (by kernel_rfl) (Below.refl _ _).drew ?_
            repeat (go_big_quiet_step (first | (intro _; rfl)))
            refine wpQuiet_load_at rfl 77 (.tmp 53) rfl ⟨g2, o2 + k * 2, none⟩ rfl (.agg #[.string z, .int .i64 2]) H1.out ?_
            simp only [Act.put, List.setIfInBounds_toArray, List.set_cons_succ, List.set_cons_zero]
            repeat (go_big_quiet_step (first | (intro _; rfl)))
            refine wpQuiet_load_at rfl 9 (.tmp 55) rfl ⟨wr.heap.size, 0, none⟩ rfl (.string z) H2.out ?_
            simp only [Act.put, List.setIfInBounds_toArray, List.set_cons_succ, List.set_cons_zero]
            repeat (go_big_quiet_step (first | (intro _; rfl)))
            refine wpQuiet_nil ?_
            intro wq hBq
            have hB7 := HW.out.trans (hBq.mono HW.out.size)
            clear hBq heq
            go_wp2_with fail
            go_roundg (gk - 1)
            case measure => omega
            case rel => exact ⟨k + 1, by omega, by go_num, hB7⟩
          · rw [if_neg (by decide)] at m1 hw2
            have heq := fun w1 => eq_chg (x := #[Value.string z, .int .i64 1]) (y := #[Value.string z, .int .i64 1]) (chg_R z 1 hz2 (by decide)) (chg_R z 1 hz2 (by decide)) w1
            rw [decide_eq_true rfl] at heq
            have hBb : Below w5.heap.size w5 (wr.alloc (.cells #[.string z, .int .i64 2] 77)) := HBr.out.alloc HBr.out.size _
            have H1 := Lib.hid (fun w1 (h1 : Below (wr.alloc (.cells #[.string z, .int .i64 2] 77)).heap.size (wr.alloc (.cells #[.string z, .int .i64 2] 77)) w1) => run_loadVar_mid (P := Tryd.prog) w1 g2 (o2 + k * 2) 77 [.string z, .int .i64 1] _ (fun j y hy => by
              have hBB := hBb.trans (h1.mono hBb.size)
              refine (hBB.cell (p := ⟨g2, o2 + k * 2 + j, none⟩) hg2).trans ?_
              match j, hy with
              | 0, hy => rw [← hy]; exact m0
              | 1, hy => rw [← hy]; exact m1
              | j + 2, hy => simp at hy) Tryd.underlying77 rfl (by kernel_rfl))
            have H2 := Lib.hid (fun w1 (h1 : Below (wr.alloc (.cells #[.string z, .int .i64 2] 77)).heap.size (wr.alloc (.cells #[.string z, .int .i64 2] 77)) w1) => (by
              have h := (h1.cell (p := ⟨wr.heap.size, 0, none⟩) (by simp)).trans (block_cell (t := 77) (cur := #[.string z, .int .i64 2]) (by show (wr.heap.push _)[wr.heap.size]? = _; simp) 0)
              simp at h
              simp [go_sem, h] : (loadVar 9 ⟨wr.heap.size, 0, none⟩).run Tryd.prog w1 = .ok (.string z) w1))
            have HW := Lib.hid hBb
            clear hBb m0 m1 hz2 hw2
            go_wp2_with fail
            refine wp_region_class (Below (wr.alloc (.cells #[.string z, .int .i64 2] 77)).heap.size (wr.alloc (.cells #[.string z, .int .i64 2] 77))) (by kernel_rfl) (by kernel_rfl) (Below.refl _ _).drew ?_
            repeat (go_big_quiet_step (first | (intro _; rfl)))
            refine wpQuiet_load_at rfl 77 (.tmp 53) rfl ⟨g2, o2 + k * 2, none⟩ rfl (.agg #[.string z, .int .i64 1]) H1.out ?_
            simp only [Act.put, List.setIfInBounds_toArray, List.set_cons_succ, List.set_cons_zero]
            repeat (go_big_quiet_step (first | (intro _; rfl)))
            refine wpQuiet_load_at rfl 9 (.tmp 55) rfl ⟨wr.heap.size, 0, none⟩ rfl (.string z) H2.out ?_
            simp only [Act.put, List.setIfInBounds_toArray, List.set_cons_succ, List.set_cons_zero]
            repeat (go_big_quiet_step (first | (intro _; rfl)))
            refine wpQuiet_nil ?_
            intro wq hBq
            have hB7 := HW.out.trans (hBq.mono HW.out.size)
            clear hBq heq
            go_wp2_with fail
            go_roundg (gk - 1)
            case measure => omega
            case rel => exact ⟨k + 1, by omega, by go_num, hB7⟩
          · rw [if_pos (by decide)] at m1 hw2
            have heq := fun w1 => eq_chg (x := #[Value.string z, .int .i64 3]) (y := #[Value.string z, .int .i64 3]) (chg_R z 3 hz2 (by decide)) (chg_R z 3 hz2 (by decide)) w1
            rw [decide_eq_true rfl] at heq
            have hBb : Below w5.heap.size w5 (wr.alloc (.cells #[.string z, .int .i64 3] 77)) := HBr.out.alloc HBr.out.size _
            have H1 := Lib.hid (fun w1 (h1 : Below (wr.alloc (.cells #[.string z, .int .i64 3] 77)).heap.size (wr.alloc (.cells #[.string z, .int .i64 3] 77)) w1) => run_loadVar_mid (P := Tryd.prog) w1 g2 (o2 + k * 2) 77 [.string z, .int .i64 3] _ (fun j y hy => by
              have hBB := hBb.trans (h1.mono hBb.size)
              refine (hBB.cell (p := ⟨g2, o2 + k * 2 + j, none⟩) hg2).trans ?_
              match j, hy with
              | 0, hy => rw [← hy]; exact m0
              | 1, hy => rw [← hy]; exact m1
              | j + 2, hy => simp at hy) Tryd.underlying77 rfl (by kernel_rfl))
            have H2 := Lib.hid (fun w1 (h1 : Below (wr.alloc (.cells #[.string z, .int .i64 3] 77)).heap.size (wr.alloc (.cells #[.string z, .int .i64 3] 77)) w1) => (by
              have h := (h1.cell (p := ⟨wr.heap.size, 0, none⟩) (by simp)).trans (block_cell (t := 77) (cur := #[.string z, .int .i64 3]) (by show (wr.heap.push _)[wr.heap.size]? = _; simp) 0)
              simp at h
              simp [go_sem, h] : (loadVar 9 ⟨wr.heap.size, 0, none⟩).run Tryd.prog w1 = .ok (.string z) w1))
            have HW := Lib.hid hBb
            clear hBb m0 m1 hz2 hw2
            go_wp2_with fail
            refine wp_region_class (Below (wr.alloc (.cells #[.string z, .int .i64 3] 77)).heap.size (wr.alloc (.cells #[.string z, .int .i64 3] 77))) (by kernel_rfl) (by kernel_rfl) (Below.refl _ _).drew ?_
            repeat (go_big_quiet_step (first | (intro _; rfl)))
            refine wpQuiet_load_at rfl 77 (.tmp 53) rfl ⟨g2, o2 + k * 2, none⟩ rfl (.agg #[.string z, .int .i64 3]) H1.out ?_
            simp only [Act.put, List.setIfInBounds_toArray, List.set_cons_succ, List.set_cons_zero]
            repeat (go_big_quiet_step (first | (intro _; rfl)))
            refine wpQuiet_load_at rfl 9 (.tmp 55) rfl ⟨wr.heap.size, 0, none⟩ rfl (.string z) H2.out ?_
            simp only [Act.put, List.setIfInBounds_toArray, List.set_cons_succ, List.set_cons_zero]
            repeat (go_big_quiet_step (first | (intro _; rfl)))
            refine wpQuiet_nil ?_
            intro wq hBq
            have hB7 := HW.out.trans (hBq.mono HW.out.size)
            clear hBq heq
            go_wp2_with fail
            go_roundg (gk - 1)
            case measure => omega
            case rel => exact ⟨k + 1, by omega, by go_num, hB7⟩
        · have hnI : ¬ (k : Int) < (n : Int) := by omega
          have hw := HB1.out.trans (hB.mono HB1.out.size)
          clear hB
          go_wp2_with fail
          go_ret
          exact ⟨rfl, hw⟩
end Go.Proofs.YtdhaanaenklleaaDoor
