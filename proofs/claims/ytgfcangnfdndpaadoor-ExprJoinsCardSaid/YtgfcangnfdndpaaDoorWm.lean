/- Walks: the law ExprJoins. -/
import Derived.Test.YtgfcangnfdndpaaDoorWl
namespace Go.Proofs.YtgfcangnfdndpaaDoor
set_option linter.unusedVariables false
open Go.ChangeShapes Go.WideShapes Go.ChangeAt Go.RowKit

theorem parse_bits {s : ByteArray} (hs : s.size ≤ 1024) : ∀ x ∈ (parseR s).1, x.size ≤ 1024 := by
  rcases parse_err s with h | h
  · obtain ⟨e, he, hl⟩ := parse_code s (parseR s).1 (by rw [← h])
    rw [hl]; exact code_size 1024 (by decide) e he
  · rw [h]; intro x hx; cases hx
def orT (a b : ByteArray) : ByteArray := (⟨#[40]⟩ : ByteArray) ++ a ++ ⟨#[41, 32, 124, 124, 32, 40]⟩ ++ b ++ ⟨#[41]⟩
def andT (a b : ByteArray) : ByteArray := (⟨#[40]⟩ : ByteArray) ++ a ++ ⟨#[41, 38, 38, 40]⟩ ++ b ++ ⟨#[41]⟩
def notT (a : ByteArray) : ByteArray := (⟨#[33, 32, 40]⟩ : ByteArray) ++ a ++ ⟨#[41]⟩
def brT (a : ByteArray) : ByteArray := (⟨#[40]⟩ : ByteArray) ++ a ++ ⟨#[41]⟩
theorem orT_list (a b : ByteArray) : (orT a b).data.toList = 40 :: (a.data.toList ++ 41 :: 32 :: 124 :: 124 :: 32 :: 40 :: (b.data.toList ++ [41])) := by
  simp only [orT, ba_append]; simp
theorem andT_list (a b : ByteArray) : (andT a b).data.toList = 40 :: (a.data.toList ++ 41 :: 38 :: 38 :: 40 :: (b.data.toList ++ [41])) := by
  simp only [andT, ba_append]; simp
theorem notT_list (a : ByteArray) : (notT a).data.toList = 33 :: 32 :: 40 :: (a.data.toList ++ [41]) := by
  simp only [notT, ba_append]; simp
theorem sizes (a b : ByteArray) (ha : a.size ≤ 400) (hb : b.size ≤ 400) : (brT a).size ≤ 1024 ∧ (brT b).size ≤ 1024 ∧ (orT a b).size ≤ 1024 ∧ (andT a b).size ≤ 1024 ∧ (notT a).size ≤ 1024 := by
  simp only [← ba_len, orT_list, andT_list, notT_list, brT, brack_list, List.length_cons, List.length_append, List.length_nil]
  have h1 := ba_len a
  have h2 := ba_len b
  refine ⟨?_, ?_, ?_, ?_, ?_⟩ <;> omega
/-- What is asked at the end. -/
theorem joined (on : List ByteArray) {a b : ByteArray} {lx ly la lb : List ByteArray} (ha : a.size ≤ 400) (hb : b.size ≤ 400) (hx : parseR (brT a) = (lx, 0)) (hy : parseR (brT b) = (ly, 0)) (pa : parseR a = (la, 0)) (pb : parseR b = (lb, 0)) :
    ∃ x y, evalR on lx = (x, 0) ∧ evalR on ly = (y, 0) ∧ parseR (orT a b) = (lx ++ ly ++ [orB], 0) ∧ parseR (andT a b) = (lx ++ ly ++ [andB], 0) ∧ parseR (notT a) = (lx ++ [notB], 0) ∧
      evalR on (lx ++ ly ++ [orB]) = (x || y, 0) ∧ evalR on (lx ++ ly ++ [andB]) = (x && y, 0) ∧ evalR on (lx ++ [notB]) = (!x, 0) := by
  obtain ⟨z1, z2, z3, z4, z5⟩ := sizes a b ha hb
  have h1 := held_of pa (brack_list a) z1 hx
  have h2 := held_of pb (brack_list b) z2 hy
  obtain ⟨e1, w1, rfl⟩ := parse_code _ _ hx
  obtain ⟨e2, w2, rfl⟩ := parse_code _ _ hy
  exact ⟨val on e1, val on e2, evalR_code on 1024 e1 w1, evalR_code on 1024 e2 w2, parse_or h1 h2 (orT_list a b) z3, parse_and h1 h2 (andT_list a b) z4, parse_not h1 (notT_list a) z5,
    evalR_code on 1024 (.disj e1 e2) ⟨w1, w2⟩, evalR_code on 1024 (.conj e1 e2) ⟨w1, w2⟩, evalR_code on 1024 (.no e1) w1⟩

set_option maxRecDepth 100000 in
set_option maxHeartbeats 4000000 in
theorem joins_walk (u : Value) (a b : ByteArray) (on : List ByteArray) (w : World) (hu : Strs w u on) (hl : on.length ≤ 9223372036854775807) :
    Calls Tryd.prog 6 #[.string a, .string b, u] w (LawEnd w) := by
  have H10 := Lib.hid (alive_any w)
  have Hu := Lib.hid hu
  obtain ⟨pu, capu, hpu, _⟩ := strs_shape hu
  clear hu
  by_cases hla : a.size ≤ 400
  · have hlaI : (a.size : Int) ≤ 400 := by omega
    by_cases hlb : b.size ≤ 400
    · have hlbI : (b.size : Int) ≤ 400 := by omega
      by_cases hln : on.length ≤ 60
      · have hlnI : (on.length : Int) ≤ 60 := by omega
        obtain ⟨z1, z2, z3, z4, z5⟩ := sizes a b hla hlb
        have HX := Lib.hid (fun w1 => parse_any (brT a) w1 (by omega))
        have HY := Lib.hid (fun w1 => parse_any (brT b) w1 (by omega))
        have HO := Lib.hid (fun w1 => parse_any (orT a b) w1 (by omega))
        have HA := Lib.hid (fun w1 => parse_any (andT a b) w1 (by omega))
        have HN := Lib.hid (fun w1 => parse_any (notT a) w1 (by omega))
        have HJ := Lib.hid (fun w1 => parse_any a w1 (by omega))
        have HK := Lib.hid (fun w1 => parse_any b w1 (by omega))
        have ev := fun (z : ByteArray) (hz : z.size ≤ 1024) (v : Value) (w1 : World) (hv : Strs w1 v (parseR z).1) (hB : Below w.heap.size w w1) => eval_any v u (parseR z).1 on w1 hv (Hu.out.below hB) (by have := parse_len hz; omega) (by omega) (fun x hx => by have := parse_bits hz x hx; omega)
        have EX := Lib.hid (ev _ z1)
        have EY := Lib.hid (ev _ z2)
        have EO := Lib.hid (ev _ z3)
        have EA := Lib.hid (ev _ z4)
        have EN := Lib.hid (ev _ z5)
        unfold Parsed at HX HY HO HA HN HJ HK
        unfold Evald at EX EY EO EA EN
        clear ev z1 z2 z3 z4 z5
        have hj := joined on (a := a) (b := b) (lx := (parseR (brT a)).1) (ly := (parseR (brT b)).1) (la := (parseR a).1) (lb := (parseR b).1) hla hlb
        obtain ⟨⟨lx, cx⟩, hx⟩ : ∃ r, parseR (brT a) = r := ⟨_, rfl⟩
        obtain ⟨⟨ly, cy⟩, hy⟩ : ∃ r, parseR (brT b) = r := ⟨_, rfl⟩
        obtain ⟨⟨la, ca⟩, pa⟩ : ∃ r, parseR a = r := ⟨_, rfl⟩
        obtain ⟨⟨lb, cb⟩, pb⟩ : ∃ r, parseR b = r := ⟨_, rfl⟩
        rw [hx] at HX EX hj
        rw [hy] at HY EY hj
        rw [pa] at HJ hj
        rw [pb] at HK hj
        simp only at HX HY HJ HK EX EY hj
        clear hx hy pa pb
        by_cases hcx : cx = 0
        · by_cases hcy : cy = 0
          · subst hcx; subst hcy
            by_cases hca : ca = 0
            · by_cases hcb : cb = 0
              · subst hca; subst hcb
                obtain ⟨x, y, i1, i2, j1, j2, j3, k1, k2, k3⟩ := hj rfl rfl rfl rfl
                rw [j1] at HO EO
                rw [j2] at HA EA
                rw [j3] at HN EN
                simp only at HO HA HN EO EA EN
                rw [i1] at EX
                rw [i2] at EY
                rw [k1] at EO
                rw [k2] at EA
                rw [k3] at EN
                clear hj i1 i2 j1 j2 j3 k1 k2 k3
                unfold brT at HX HY
                unfold orT at HO
                unfold andT at HA
                unfold notT at HN
                subst hpu
                go_enter Tryd.func6, Tryd.ntmps6
                go_wp2_with fail
                refine H10.out.mono ?_
                rintro e' w1 ⟨rfl, hB⟩
                go_wp2_with fail
                refine (HX.out _).mono ?_
                rintro e' w2 ⟨vx, rfl, hv, hB2⟩
                replace hB := hB.trans (hB2.mono hB.size)
                have Hx0 := Lib.hid hv
                clear hB2 hv
                go_wp2_with fail
                refine (HY.out _).mono ?_
                rintro e' w3 ⟨vy, rfl, hv, hB2⟩
                replace hB := hB.trans (hB2.mono hB.size)
                have Hx3 := Lib.hid (Hx0.out.below hB2)
                clear Hx0
                have Hy0 := Lib.hid hv
                clear hB2 hv
                go_wp2_with fail
                refine (EX.out _ _ Hx3.out hB).mono ?_
                rintro e' w4 ⟨rfl, hB2⟩
                replace hB := hB.trans (hB2.mono hB.size)
                clear Hx3
                have Hy4 := Lib.hid (Hy0.out.below hB2)
                clear Hy0
                clear hB2
                go_wp2_with fail
                refine (EY.out _ _ Hy4.out hB).mono ?_
                rintro e' w5 ⟨rfl, hB2⟩
                replace hB := hB.trans (hB2.mono hB.size)
                clear Hy4
                clear hB2
                go_wp2_with fail
                refine (HO.out _).mono ?_
                rintro e' w6 ⟨vo, rfl, hv, hB2⟩
                replace hB := hB.trans (hB2.mono hB.size)
                have Ho0 := Lib.hid hv
                clear hB2 hv
                go_wp2_with fail
                refine (HA.out _).mono ?_
                rintro e' w7 ⟨va, rfl, hv, hB2⟩
                replace hB := hB.trans (hB2.mono hB.size)
                have Ho7 := Lib.hid (Ho0.out.below hB2)
                clear Ho0
                have Ha0 := Lib.hid hv
                clear hB2 hv
                go_wp2_with fail
                refine (HN.out _).mono ?_
                rintro e' w8 ⟨vn, rfl, hv, hB2⟩
                replace hB := hB.trans (hB2.mono hB.size)
                have Ho8 := Lib.hid (Ho7.out.below hB2)
                clear Ho7
                have Ha8 := Lib.hid (Ha0.out.below hB2)
                clear Ha0
                have Hn0 := Lib.hid hv
                clear hB2 hv
                go_wp2_with fail
                refine (EO.out _ _ Ho8.out hB).mono ?_
                rintro e' w9 ⟨rfl, hB2⟩
                replace hB := hB.trans (hB2.mono hB.size)
                clear Ho8
                have Ha9 := Lib.hid (Ha8.out.below hB2)
                clear Ha8
                have Hn9 := Lib.hid (Hn0.out.below hB2)
                clear Hn0
                clear hB2
                go_wp2_with fail
                refine (EA.out _ _ Ha9.out hB).mono ?_
                rintro e' w10 ⟨rfl, hB2⟩
                replace hB := hB.trans (hB2.mono hB.size)
                clear Ha9
                have Hn10 := Lib.hid (Hn9.out.below hB2)
                clear Hn9
                clear hB2
                go_wp2_with fail
                refine (EN.out _ _ Hn10.out hB).mono ?_
                rintro e' w11 ⟨rfl, hB2⟩
                replace hB := hB.trans (hB2.mono hB.size)
                clear Hn10
                clear hB2
                go_wp2_with fail
                refine (HJ.out _).mono ?_
                rintro e' w12 ⟨vj, rfl, hv, hB2⟩
                replace hB := hB.trans (hB2.mono hB.size)
                clear hB2 hv
                go_wp2_with fail
                refine (HK.out _).mono ?_
                rintro e' w13 ⟨vk, rfl, hv, hB2⟩
                replace hB := hB.trans (hB2.mono hB.size)
                clear hB2 hv
                cases x <;> cases y
                all_goals
                  go_wp2_with fail
                  go_ret
                  exact ⟨rfl, hB⟩
              · obtain ⟨c1, c2⟩ := err_ne hcb
                subst hca
                generalize parseR (orT a b) = ro at HO EO
                generalize parseR (andT a b) = ra at HA EA
                generalize parseR (notT a) = rn at HN EN
                obtain ⟨lo, co⟩ := ro
                obtain ⟨lA, cA⟩ := ra
                obtain ⟨lN, cN⟩ := rn
                simp only at HO HA HN EO EA EN
                generalize evalR on lx = qx at EX
                generalize evalR on ly = qy at EY
                generalize evalR on lo = qo at EO
                generalize evalR on lA = qa at EA
                generalize evalR on lN = qn at EN
                obtain ⟨qx, dx⟩ := qx
                obtain ⟨qy, dy⟩ := qy
                obtain ⟨qo, do_⟩ := qo
                obtain ⟨qa, da⟩ := qa
                obtain ⟨qn, dn⟩ := qn
                simp only at EX EY EO EA EN
                clear hj
                unfold brT at HX HY
                unfold orT at HO
                unfold andT at HA
                unfold notT at HN
                subst hpu
                go_enter Tryd.func6, Tryd.ntmps6
                go_wp2_with fail
                refine H10.out.mono ?_
                rintro e' w1 ⟨rfl, hB⟩
                go_wp2_with fail
                refine (HX.out _).mono ?_
                rintro e' w14 ⟨vx, rfl, hv, hB2⟩
                replace hB := hB.trans (hB2.mono hB.size)
                have Hx0 := Lib.hid hv
                clear hB2 hv
                go_wp2_with fail
                refine (HY.out _).mono ?_
                rintro e' w15 ⟨vy, rfl, hv, hB2⟩
                replace hB := hB.trans (hB2.mono hB.size)
                have Hx15 := Lib.hid (Hx0.out.below hB2)
                clear Hx0
                have Hy0 := Lib.hid hv
                clear hB2 hv
                go_wp2_with fail
                refine (EX.out _ _ Hx15.out hB).mono ?_
                rintro e' w16 ⟨rfl, hB2⟩
                replace hB := hB.trans (hB2.mono hB.size)
                clear Hx15
                have Hy16 := Lib.hid (Hy0.out.below hB2)
                clear Hy0
                clear hB2
                go_wp2_with fail
                refine (EY.out _ _ Hy16.out hB).mono ?_
                rintro e' w17 ⟨rfl, hB2⟩
                replace hB := hB.trans (hB2.mono hB.size)
                clear Hy16
                clear hB2
                go_wp2_with fail
                refine (HO.out _).mono ?_
                rintro e' w18 ⟨vo, rfl, hv, hB2⟩
                replace hB := hB.trans (hB2.mono hB.size)
                have Ho0 := Lib.hid hv
                clear hB2 hv
                go_wp2_with fail
                refine (HA.out _).mono ?_
                rintro e' w19 ⟨va, rfl, hv, hB2⟩
                replace hB := hB.trans (hB2.mono hB.size)
                have Ho19 := Lib.hid (Ho0.out.below hB2)
                clear Ho0
                have Ha0 := Lib.hid hv
                clear hB2 hv
                go_wp2_with fail
                refine (HN.out _).mono ?_
                rintro e' w20 ⟨vn, rfl, hv, hB2⟩
                replace hB := hB.trans (hB2.mono hB.size)
                have Ho20 := Lib.hid (Ho19.out.below hB2)
                clear Ho19
                have Ha20 := Lib.hid (Ha0.out.below hB2)
                clear Ha0
                have Hn0 := Lib.hid hv
                clear hB2 hv
                go_wp2_with fail
                refine (EO.out _ _ Ho20.out hB).mono ?_
                rintro e' w21 ⟨rfl, hB2⟩
                replace hB := hB.trans (hB2.mono hB.size)
                clear Ho20
                have Ha21 := Lib.hid (Ha20.out.below hB2)
                clear Ha20
                have Hn21 := Lib.hid (Hn0.out.below hB2)
                clear Hn0
                clear hB2
                go_wp2_with fail
                refine (EA.out _ _ Ha21.out hB).mono ?_
                rintro e' w22 ⟨rfl, hB2⟩
                replace hB := hB.trans (hB2.mono hB.size)
                clear Ha21
                have Hn22 := Lib.hid (Hn21.out.below hB2)
                clear Hn21
                clear hB2
                go_wp2_with fail
                refine (EN.out _ _ Hn22.out hB).mono ?_
                rintro e' w23 ⟨rfl, hB2⟩
                replace hB := hB.trans (hB2.mono hB.size)
                clear Hn22
                clear hB2
                go_wp2_with fail
                refine (HJ.out _).mono ?_
                rintro e' w24 ⟨vj, rfl, hv, hB2⟩
                replace hB := hB.trans (hB2.mono hB.size)
                clear hB2 hv
                go_wp2_with fail
                refine (HK.out _).mono ?_
                rintro e' w25 ⟨vk, rfl, hv, hB2⟩
                replace hB := hB.trans (hB2.mono hB.size)
                clear hB2 hv
                go_wp2_with fail
                go_ret
                exact ⟨rfl, hB⟩
            · obtain ⟨c1, c2⟩ := err_ne hca
              generalize parseR (orT a b) = ro at HO EO
              generalize parseR (andT a b) = ra at HA EA
              generalize parseR (notT a) = rn at HN EN
              obtain ⟨lo, co⟩ := ro
              obtain ⟨lA, cA⟩ := ra
              obtain ⟨lN, cN⟩ := rn
              simp only at HO HA HN EO EA EN
              generalize evalR on lx = qx at EX
              generalize evalR on ly = qy at EY
              generalize evalR on lo = qo at EO
              generalize evalR on lA = qa at EA
              generalize evalR on lN = qn at EN
              obtain ⟨qx, dx⟩ := qx
              obtain ⟨qy, dy⟩ := qy
              obtain ⟨qo, do_⟩ := qo
              obtain ⟨qa, da⟩ := qa
              obtain ⟨qn, dn⟩ := qn
              simp only at EX EY EO EA EN
              clear hj
              unfold brT at HX HY
              unfold orT at HO
              unfold andT at HA
              unfold notT at HN
              subst hpu
              go_enter Tryd.func6, Tryd.ntmps6
              go_wp2_with fail
              refine H10.out.mono ?_
              rintro e' w1 ⟨rfl, hB⟩
              go_wp2_with fail
              refine (HX.out _).mono ?_
              rintro e' w26 ⟨vx, rfl, hv, hB2⟩
              replace hB := hB.trans (hB2.mono hB.size)
              have Hx0 := Lib.hid hv
              clear hB2 hv
              go_wp2_with fail
              refine (HY.out _).mono ?_
              rintro e' w27 ⟨vy, rfl, hv, hB2⟩
              replace hB := hB.trans (hB2.mono hB.size)
              have Hx27 := Lib.hid (Hx0.out.below hB2)
              clear Hx0
              have Hy0 := Lib.hid hv
              clear hB2 hv
              go_wp2_with fail
              refine (EX.out _ _ Hx27.out hB).mono ?_
              rintro e' w28 ⟨rfl, hB2⟩
              replace hB := hB.trans (hB2.mono hB.size)
              clear Hx27
              have Hy28 := Lib.hid (Hy0.out.below hB2)
              clear Hy0
              clear hB2
              go_wp2_with fail
              refine (EY.out _ _ Hy28.out hB).mono ?_
              rintro e' w29 ⟨rfl, hB2⟩
              replace hB := hB.trans (hB2.mono hB.size)
              clear Hy28
              clear hB2
              go_wp2_with fail
              refine (HO.out _).mono ?_
              rintro e' w30 ⟨vo, rfl, hv, hB2⟩
              replace hB := hB.trans (hB2.mono hB.size)
              have Ho0 := Lib.hid hv
              clear hB2 hv
              go_wp2_with fail
              refine (HA.out _).mono ?_
              rintro e' w31 ⟨va, rfl, hv, hB2⟩
              replace hB := hB.trans (hB2.mono hB.size)
              have Ho31 := Lib.hid (Ho0.out.below hB2)
              clear Ho0
              have Ha0 := Lib.hid hv
              clear hB2 hv
              go_wp2_with fail
              refine (HN.out _).mono ?_
              rintro e' w32 ⟨vn, rfl, hv, hB2⟩
              replace hB := hB.trans (hB2.mono hB.size)
              have Ho32 := Lib.hid (Ho31.out.below hB2)
              clear Ho31
              have Ha32 := Lib.hid (Ha0.out.below hB2)
              clear Ha0
              have Hn0 := Lib.hid hv
              clear hB2 hv
              go_wp2_with fail
              refine (EO.out _ _ Ho32.out hB).mono ?_
              rintro e' w33 ⟨rfl, hB2⟩
              replace hB := hB.trans (hB2.mono hB.size)
              clear Ho32
              have Ha33 := Lib.hid (Ha32.out.below hB2)
              clear Ha32
              have Hn33 := Lib.hid (Hn0.out.below hB2)
              clear Hn0
              clear hB2
              go_wp2_with fail
              refine (EA.out _ _ Ha33.out hB).mono ?_
              rintro e' w34 ⟨rfl, hB2⟩
              replace hB := hB.trans (hB2.mono hB.size)
              clear Ha33
              have Hn34 := Lib.hid (Hn33.out.below hB2)
              clear Hn33
              clear hB2
              go_wp2_with fail
              refine (EN.out _ _ Hn34.out hB).mono ?_
              rintro e' w35 ⟨rfl, hB2⟩
              replace hB := hB.trans (hB2.mono hB.size)
              clear Hn34
              clear hB2
              go_wp2_with fail
              refine (HJ.out _).mono ?_
              rintro e' w36 ⟨vj, rfl, hv, hB2⟩
              replace hB := hB.trans (hB2.mono hB.size)
              clear hB2 hv
              go_wp2_with fail
              refine (HK.out _).mono ?_
              rintro e' w37 ⟨vk, rfl, hv, hB2⟩
              replace hB := hB.trans (hB2.mono hB.size)
              clear hB2 hv
              go_wp2_with fail
              go_ret
              exact ⟨rfl, hB⟩
          · obtain ⟨c1, c2⟩ := err_ne hcy
            subst hcx
            clear hj HO HA HN HJ HK EX EY EO EA EN
            unfold brT at HX HY
            subst hpu
            go_enter Tryd.func6, Tryd.ntmps6
            go_wp2_with fail
            refine H10.out.mono ?_
            rintro e' w1 ⟨rfl, hB⟩
            go_wp2_with fail
            refine (HX.out _).mono ?_
            rintro e' w38 ⟨vx, rfl, hv, hB2⟩
            replace hB := hB.trans (hB2.mono hB.size)
            have Hx0 := Lib.hid hv
            clear hB2 hv
            go_wp2_with fail
            refine (HY.out _).mono ?_
            rintro e' w39 ⟨vy, rfl, hv, hB2⟩
            replace hB := hB.trans (hB2.mono hB.size)
            have Hx39 := Lib.hid (Hx0.out.below hB2)
            clear Hx0
            have Hy0 := Lib.hid hv
            clear hB2 hv
            go_wp2_with fail
            go_ret
            exact ⟨rfl, hB⟩
        · obtain ⟨c1, c2⟩ := err_ne hcx
          clear hj HO HA HN HJ HK EX EY EO EA EN
          unfold brT at HX HY
          subst hpu
          go_enter Tryd.func6, Tryd.ntmps6
          go_wp2_with fail
          refine H10.out.mono ?_
          rintro e' w1 ⟨rfl, hB⟩
          go_wp2_with fail
          refine (HX.out _).mono ?_
          rintro e' w40 ⟨vx, rfl, hv, hB2⟩
          replace hB := hB.trans (hB2.mono hB.size)
          have Hx0 := Lib.hid hv
          clear hB2 hv
          go_wp2_with fail
          refine (HY.out _).mono ?_
          rintro e' w41 ⟨vy, rfl, hv, hB2⟩
          replace hB := hB.trans (hB2.mono hB.size)
          have Hx41 := Lib.hid (Hx0.out.below hB2)
          clear Hx0
          have Hy0 := Lib.hid hv
          clear hB2 hv
          go_wp2_with fail
          go_ret
          exact ⟨rfl, hB⟩
      · have hlnI : ¬ (on.length : Int) ≤ 60 := by omega
        subst hpu
        go_enter Tryd.func6, Tryd.ntmps6
        go_wp2_with fail
        refine H10.out.mono ?_
        rintro e' w1 ⟨rfl, hB⟩
        go_wp2_with fail
        go_ret
        exact ⟨rfl, hB⟩
    · have hlbI : ¬ (b.size : Int) ≤ 400 := by omega
      subst hpu
      go_enter Tryd.func6, Tryd.ntmps6
      go_wp2_with fail
      refine H10.out.mono ?_
      rintro e' w1 ⟨rfl, hB⟩
      go_wp2_with fail
      go_ret
      exact ⟨rfl, hB⟩
  · have hlaI : ¬ (a.size : Int) ≤ 400 := by omega
    subst hpu
    go_enter Tryd.func6, Tryd.ntmps6
    go_wp2_with fail
    refine H10.out.mono ?_
    rintro e' w1 ⟨rfl, hB⟩
    go_wp2_with fail
    go_ret
    exact ⟨rfl, hB⟩
end Go.Proofs.YtgfcangnfdndpaaDoor
