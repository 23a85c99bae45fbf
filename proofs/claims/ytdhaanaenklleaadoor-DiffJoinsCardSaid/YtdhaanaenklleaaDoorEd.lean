/- Walks: the changes from one list to another one. -/
import Derived.Test.YtdhaanaenklleaaDoorEc
import Derived.Deep.AppendLies
import Derived.Deep.RegionLaw
import Derived.BigRegion
import Derived.OwnWalk
namespace Go.Proofs.YtdhaanaenklleaaDoor
set_option linter.unusedVariables false
set_option linter.unusedSimpArgs false
open Go.ChangeShapes Go.WideShapes Go.ChangeAt Go.RowKit

def flatD (l : List D.Chg) : List Value := l.flatMap fun c => [.string c.1, .int .i64 c.2]
theorem flatD_one (l : List D.Chg) (p : ByteArray) (k : Int) : flatD (l ++ [(p, k)]) = flatD l ++ [.string p, .int .i64 k] := by simp [flatD]
theorem own_below {w w' : World} {base : Nat} {e : TypeId} {n s : Nat} {v : Value} {xs : List Value} (h : w.ownsRow base e s v n xs) (hB : Below w.heap.size w w') : w'.ownsRow base e s v n xs := by
  refine ⟨h.1, ?_⟩
  rcases h.2 with h | ⟨g, cap, cur, hv, hg, hh, rest⟩
  · exact .inl h
  · exact .inr ⟨g, cap, cur, hv, hg, (hB.block g (lt_of_block hh)).trans hh, rest⟩
theorem two_new (w : World) (x y : Value) (t : TypeId) : ∀ j u, [x, y][j]? = some u → (w.alloc (.cells #[x, y] t)).cell? ((⟨w.heap.size, 0, none⟩ : Addr).add j) = some u := by
  intro j u hj
  have e : (⟨w.heap.size, 0, none⟩ : Addr).add j = ⟨w.heap.size, j, none⟩ := by
    unfold Addr.add; split <;> simp_all
  rw [e, block_cell (t := t) (cur := #[x, y]) (by show (w.heap.push _)[w.heap.size]? = _; simp)]
  simpa using hj
structure Li (w : World) (a b x y : List Inp) (done : List D.Chg) (va vb vo : Value) (wr : World) : Prop where
  ra : Rows w 33 inpR va x
  rb : Rows w 33 inpR vb y
  me : D.merge cmpP a b = done ++ D.merge cmpP x y
  ow : wr.ownsRow w.heap.size 77 2 vo done.length (flatD done)
  bl : Below w.heap.size w wr
  sa : ∀ e ∈ x, e.1.size ≤ 1073741824
  sb : ∀ e ∈ y, e.1.size ≤ 1073741824
  n : done.length + x.length + y.length ≤ 1073741824
  mx : MaxAt w
theorem Li.step {w wr w1 w2 : World} {a b x y x' y' : List Inp} {done : List D.Chg} {va vb vo va' vb' : Value} {p : ByteArray} {k : Int} {g cap : Nat} (h : Li w a b x y done va vb vo wr)
    (hB : Below wr.heap.size wr w1) (hg : (w1.alloc (.cells #[.string p, .int .i64 k] 77)).grownBy w2 vo.ownBlock)
    (ho : w2.ownsRow w.heap.size 77 2 (.slice (some ⟨g, 0, none⟩) (done.length + 1) cap) (done.length + 1) (flatD done ++ [.string p, .int .i64 k]))
    (ra : Rows w 33 inpR va' x') (rb : Rows w 33 inpR vb' y') (me : D.merge cmpP x y = (p, k) :: D.merge cmpP x' y') (sx : ∀ e ∈ x', e ∈ x) (sy : ∀ e ∈ y', e ∈ y) (hn : x'.length + y'.length + 1 ≤ x.length + y.length) :
    Li w a b x' y' (done ++ [(p, k)]) va' vb' (.slice (some ⟨g, 0, none⟩) (done.length + 1) cap) w2 := by
  have h1 : Below w.heap.size w w1 := h.bl.trans (hB.mono h.bl.size)
  have hl := h.n
  refine ⟨ra, rb, by rw [h.me, me]; simp, by rw [flatD_one]; simpa using ho, (h1.alloc h1.size _).grown hg (by have := h1.size; simp; omega) (fun j hj => (h.ow.lt j hj).1), fun e he => h.sa e (sx e he), fun e he => h.sb e (sy e he), ?_, h.mx⟩
  rw [List.length_append, List.length_singleton]; omega
theorem Li.pass {w wr w1 : World} {a b x y x' y' : List Inp} {done : List D.Chg} {va vb vo va' vb' : Value} (h : Li w a b x y done va vb vo wr) (hB : Below wr.heap.size wr w1)
    (ra : Rows w 33 inpR va' x') (rb : Rows w 33 inpR vb' y') (me : D.merge cmpP x y = D.merge cmpP x' y') (sx : ∀ e ∈ x', e ∈ x) (sy : ∀ e ∈ y', e ∈ y) (hn : x'.length + y'.length ≤ x.length + y.length) :
    Li w a b x' y' done va' vb' vo w1 := by
  have hl := h.n
  exact ⟨ra, rb, by rw [h.me, me], own_below h.ow hB, h.bl.trans (hB.mono h.bl.size), fun e he => h.sa e (sx e he), fun e he => h.sb e (sy e he), by omega, h.mx⟩
theorem tail_any {w : World} {b off cap : Nat} {f : Inp} {r : List Inp} (h : Rows w 33 inpR (.slice (some ⟨b, off, none⟩) (r.length + 1) cap) (f :: r)) :
    ∃ q c, (∀ w1, (Instr.slice 70 (.slice (some ⟨b, off, none⟩) (r.length + 1) cap) (some (.int .i64 1)) none none).run Tryd.prog w1 = .ok (.slice q r.length c) w1) ∧ Rows w 33 inpR (.slice q r.length c) r := by
  obtain ⟨p, cap', e, hp⟩ := h.shape
  obtain ⟨b', off', e', hb, hcap, hmax, hcell⟩ := hp (by simp)
  simp only [Value.slice.injEq] at e
  obtain ⟨rfl, -, rfl⟩ := e
  simp only [Option.some.injEq, Addr.mk.injEq, and_true] at e'
  obtain ⟨rfl, rfl⟩ := e'
  simp only [List.length_cons] at hcap
  have he : Tryd.prog.elem 70 = 113 := by kernel_rfl
  have hz : ∀ w1, (sizeOf 113).run Tryd.prog w1 = .ok 33 w1 := fun w1 => by simp [go_sem]
  refine ⟨if cap = 1 then some ⟨b, off, none⟩ else some ⟨b, off + 33, none⟩, cap - 1, fun w1 => ?_, ?_⟩
  · rw [run_slice_l w1 70 _ _ _ (by rw [he]; exact Tryd.underlying70) .i64 1 (by omega) (by omega), he, hz]
    simp only [Result.andThen_ok, sliced, Int.toNat_one, Nat.one_mul]
    by_cases hc : cap = 1
    · simp [hc]
    · have e3 : (⟨b, off, none⟩ : Addr).add 33 = ⟨b, off + 33, none⟩ := by unfold Addr.add; split <;> simp_all
      simp [hc, e3]
  · by_cases h0 : r = []
    · subst h0; exact .inl ⟨⟨_, _, rfl⟩, rfl⟩
    · have hr := List.length_pos_iff.2 h0
      rw [if_neg (by omega)]
      refine .inr ⟨b, off + 33, cap - 1, rfl, hr, by omega, by unfold maxLen at hmax ⊢; omega, hb, fun i x hx => ?_⟩
      obtain ⟨ecs, h1, h2, h3⟩ := hcell (i + 1) x (by simpa using hx)
      refine ⟨ecs, h1, h2, fun j hj => ?_⟩
      have := h3 j hj
      have e2 : off + (i + 1) * 33 + j = off + 33 + i * 33 + j := by omega
      rw [← e2]; exact this


theorem me_a (f : Inp) (r : List Inp) : D.merge cmpP (f :: r) [] = (f.1, 2) :: D.merge cmpP r [] := by rw [D.merge]
theorem me_b (g : Inp) (r : List Inp) : D.merge cmpP [] (g :: r) = (g.1, 1) :: D.merge cmpP [] r := by rw [D.merge]
theorem me_lt {f g : Inp} {r s : List Inp} (h : cmpP f.1 g.1 < 0) : D.merge cmpP (f :: r) (g :: s) = (f.1, 2) :: D.merge cmpP r (g :: s) := by rw [D.merge, if_pos h]
theorem me_gt {f g : Inp} {r s : List Inp} (h : 0 < cmpP f.1 g.1) : D.merge cmpP (f :: r) (g :: s) = (g.1, 1) :: D.merge cmpP (f :: r) s := by rw [D.merge, if_neg (by omega), if_pos h]
theorem me_eq {f g : Inp} {r s : List Inp} (h : cmpP f.1 g.1 = 0) (e : f.2.1 = g.2.1) : D.merge cmpP (f :: r) (g :: s) = D.merge cmpP r s := by rw [D.merge, if_neg (by omega), if_neg (by omega), if_pos e]
theorem me_ne {f g : Inp} {r s : List Inp} (h : cmpP f.1 g.1 = 0) (e : ¬ f.2.1 = g.2.1) : D.merge cmpP (f :: r) (g :: s) = (f.1, 3) :: D.merge cmpP r s := by rw [D.merge, if_neg (by omega), if_neg (by omega), if_neg e]
theorem me_nil : D.merge cmpP [] [] = [] := by rw [D.merge]


set_option maxRecDepth 100000 in
set_option maxHeartbeats 4000000 in
theorem lists_any (v u : Value) (a b : List Inp) (w : World) (hM : MaxAt w) (hv : Rows w 33 inpR v a) (hu : Rows w 33 inpR u b) (hza : ∀ x ∈ a, x.1.size ≤ 1073741824) (hzb : ∀ x ∈ b, x.1.size ≤ 1073741824) (hn : a.length + b.length ≤ 1073741824) :
    Calls Tryd.prog 43 #[v, u] w fun e w' => ∃ vo, e = .returned vo ∧ w'.ownsRow w.heap.size 77 2 vo (D.merge cmpP a b).length (flatD (D.merge cmpP a b)) ∧ Below w.heap.size w w' := by
  obtain ⟨i0, hi, hz0, hz1, hz2⟩ := info_parts (z := .agg #[.string ⟨#[]⟩, .int .i64 0]) (size := 2) (bytes := 24) (show (Tryd.prog.info? 77).map (fun i => (i.zero, i.size, i.bytes)) = _ by kernel_rfl)
  have H0 := Lib.hid (show Li w a b a b [] v u (.slice none 0 0) w from ⟨hv, hu, rfl, ⟨rfl, .inl ⟨rfl, rfl⟩⟩, Below.refl _ _, hza, hzb, by simpa using hn, hM⟩)
  clear hv hu hM hza hzb hn
  go_enter Tryd.func43, Tryd.ntmps43
  go_wp2_with fail
  go_loopg [0, 1, 5] (a.length + b.length) (fun g va vb vo wr => ∃ x y done, x.length + y.length = g ∧ Li w a b x y done va vb vo wr)
  case atStart => exact ⟨a, b, [], rfl, H0.out⟩
  case round =>
    obtain ⟨x, y, done, hg, hL⟩ := hrel
    have HL := Lib.hid hL
    have HF := Lib.hid (first_any u0 u1 x y wr (hL.mx.below hL.bl) (hL.ra.below hL.bl) (hL.rb.below hL.bl) hL.sa hL.sb)
    cases x with
    | nil =>
      cases y with
      | nil =>
        obtain ⟨p, c1, rfl⟩ := Rows.empty hL.ra
        obtain ⟨q, c2, rfl⟩ := Rows.empty hL.rb
        have Hme := Lib.hid (show D.merge cmpP a b = done by rw [hL.me, me_nil, List.append_nil])
        clear hL HF
        go_wp2_with fail
        go_ret
        exact ⟨_, rfl, by rw [Hme.out]; exact HL.out.ow, HL.out.bl⟩
      | cons g s =>
        obtain ⟨p, c1, rfl⟩ := Rows.empty hL.ra
        obtain ⟨b2, o2, cap2, rfl, hb2, hcap2, hmax2, hc2, hr2, h322, -⟩ := Rows.head hL.rb
        obtain ⟨qb, cb, Htlb, htb⟩ := tail_any hL.rb
        have Htb := Lib.hid htb
        have hposb : (0 : Int) < ((s.length + 1 : Nat) : Int) := by omega
        have hF := HF.out
        replace HF := Lib.hid (show Calls Tryd.prog 70 _ wr fun e w' => e = .returned (.int .i64 1) ∧ Below wr.heap.size wr w' from hF)
        clear hF
        clear htb
        have Hbw := Lib.hid hL.bl
        clear hL
        go_wp2_with fail
        refine HF.out.mono ?_
        rintro e w1 ⟨rfl, hB1⟩
        have HB1 := Lib.hid hB1
        have HO1 := Lib.hid (own_below HL.out.ow hB1)
        have Hw1 := Lib.hid (Hbw.out.trans (hB1.mono Hbw.out.size))
        have kbw := (Hw1.out.cell (p := ⟨b2, o2, none⟩) hb2).trans hc2
        clear hB1
        skip
        go_wp2_with (at_builtin; go_must (refine wpList_append_lies _ rfl (.tmp 32) (.tmp 38) 73 rfl w.heap.size 77 i0 (.agg #[.string ⟨#[]⟩, .int .i64 0]) 2 24 Tryd.underlying73 hi hz0 hz1 hz2 rfl (by decide) u5 done.length (flatD done) rfl (HO1.out.alloc _) ⟨w1.heap.size, 0, none⟩ 1 1 [.string g.1, .int .i64 1] rfl rfl (two_new _ _ _ _) (by intro u hu; simp at hu; rcases hu with rfl | rfl <;> rfl) (by decide) (by have := HL.out.n; unfold maxLen; omega) (by have := HL.out.n; omega) (by have := HL.out.bl.size; have := HB1.out.size; simp; omega) (w1.heap.size + 1) (by simp) ?_); intro gg cap w2 hown2 hgrow2 hat2 hlt2; have Hst := Lib.hid (HL.out.step HB1.out hgrow2 hown2 HL.out.ra Htb.out (me_b g s) (fun e he => he) (fun e he => List.mem_cons_of_mem _ he) (by simp only [List.length_cons, List.length_nil]; omega)); clear hown2 hgrow2 hat2 hlt2)
        go_roundg (gk - 1)
        case measure => simp only [List.length_cons, List.length_nil] at hg; omega
        case rel => exact ⟨_, _, _, by simp only [List.length_cons, List.length_nil] at hg ⊢; omega, Hst.out⟩
    | cons f r =>
      cases y with
      | nil =>
        obtain ⟨b1, o1, cap1, rfl, hb1, hcap1, hmax1, hc1, hr1, h321, -⟩ := Rows.head hL.ra
        obtain ⟨qa, ca, Htla, hta⟩ := tail_any hL.ra
        have Hta := Lib.hid hta
        have hposa : (0 : Int) < ((r.length + 1 : Nat) : Int) := by omega
        obtain ⟨q, c2, rfl⟩ := Rows.empty hL.rb
        have hF := HF.out
        replace HF := Lib.hid (show Calls Tryd.prog 70 _ wr fun e w' => e = .returned (.int .i64 (-1)) ∧ Below wr.heap.size wr w' from hF)
        clear hF hta
        have Hbw := Lib.hid hL.bl
        clear hL
        go_wp2_with fail
        refine HF.out.mono ?_
        rintro e w1 ⟨rfl, hB1⟩
        have HB1 := Lib.hid hB1
        have HO1 := Lib.hid (own_below HL.out.ow hB1)
        have Hw1 := Lib.hid (Hbw.out.trans (hB1.mono Hbw.out.size))
        have kaw := (Hw1.out.cell (p := ⟨b1, o1, none⟩) hb1).trans hc1
        clear hB1
        go_wp2_with (at_builtin; go_must (refine wpList_append_lies _ rfl (.tmp 21) (.tmp 27) 73 rfl w.heap.size 77 i0 (.agg #[.string ⟨#[]⟩, .int .i64 0]) 2 24 Tryd.underlying73 hi hz0 hz1 hz2 rfl (by decide) u5 done.length (flatD done) rfl (HO1.out.alloc _) ⟨w1.heap.size, 0, none⟩ 1 1 [.string f.1, .int .i64 2] rfl rfl (two_new _ _ _ _) (by intro u hu; simp at hu; rcases hu with rfl | rfl <;> rfl) (by decide) (by have := HL.out.n; unfold maxLen; omega) (by have := HL.out.n; omega) (by have := HL.out.bl.size; have := HB1.out.size; simp; omega) (w1.heap.size + 1) (by simp) ?_); intro gg cap w2 hown2 hgrow2 hat2 hlt2; have Hst := Lib.hid (HL.out.step HB1.out hgrow2 hown2 Hta.out HL.out.rb (me_a f r) (fun e he => List.mem_cons_of_mem _ he) (fun e he => he) (by simp only [List.length_cons, List.length_nil]; omega)); clear hown2 hgrow2 hat2 hlt2)
        go_roundg (gk - 1)
        case measure => simp only [List.length_cons, List.length_nil] at hg; omega
        case rel => exact ⟨_, _, _, by simp only [List.length_cons, List.length_nil] at hg ⊢; omega, Hst.out⟩
      | cons g s =>
        obtain ⟨b1, o1, cap1, rfl, hb1, hcap1, hmax1, hc1, hr1, h321, -⟩ := Rows.head hL.ra
        obtain ⟨qa, ca, Htla, hta⟩ := tail_any hL.ra
        have Hta := Lib.hid hta
        have hposa : (0 : Int) < ((r.length + 1 : Nat) : Int) := by omega
        obtain ⟨b2, o2, cap2, rfl, hb2, hcap2, hmax2, hc2, hr2, h322, -⟩ := Rows.head hL.rb
        obtain ⟨qb, cb, Htlb, htb⟩ := tail_any hL.rb
        have Htb := Lib.hid htb
        have hposb : (0 : Int) < ((s.length + 1 : Nat) : Int) := by omega
        have hF := HF.out
        obtain ⟨od, hod⟩ : ∃ od, od = cmpP f.1 g.1 := ⟨_, rfl⟩
        replace HF := Lib.hid (show Calls Tryd.prog 70 _ wr fun e w' => e = .returned (.int .i64 od) ∧ Below wr.heap.size wr w' from by rw [hod]; exact hF)
        have Hod := Lib.hid hod
        clear hF hta htb hod
        by_cases z1 : od < 0
        · have z2 : od ≤ 0 := by omega
          have z3 : ¬ 0 ≤ od := by omega
          have z4 : ¬ 0 < od := by omega
          have Hme := Lib.hid (me_lt (f := f) (g := g) (r := r) (s := s) (by rw [← Hod.out]; exact z1))
          have Hbw := Lib.hid hL.bl
          clear hL
          go_wp2_with fail
          refine HF.out.mono ?_
          rintro e w1 ⟨rfl, hB1⟩
          have HB1 := Lib.hid hB1
          have HO1 := Lib.hid (own_below HL.out.ow hB1)
          have Hw1 := Lib.hid (Hbw.out.trans (hB1.mono Hbw.out.size))
          have kaw := (Hw1.out.cell (p := ⟨b1, o1, none⟩) hb1).trans hc1
          have kbw := (Hw1.out.cell (p := ⟨b2, o2, none⟩) hb2).trans hc2
          clear hB1
          go_wp2_with (at_builtin; go_must (refine wpList_append_lies _ rfl (.tmp 21) (.tmp 27) 73 rfl w.heap.size 77 i0 (.agg #[.string ⟨#[]⟩, .int .i64 0]) 2 24 Tryd.underlying73 hi hz0 hz1 hz2 rfl (by decide) u5 done.length (flatD done) rfl (HO1.out.alloc _) ⟨w1.heap.size, 0, none⟩ 1 1 [.string f.1, .int .i64 2] rfl rfl (two_new _ _ _ _) (by intro u hu; simp at hu; rcases hu with rfl | rfl <;> rfl) (by decide) (by have := HL.out.n; unfold maxLen; omega) (by have := HL.out.n; omega) (by have := HL.out.bl.size; have := HB1.out.size; simp; omega) (w1.heap.size + 1) (by simp) ?_); intro gg cap w2 hown2 hgrow2 hat2 hlt2; have Hst := Lib.hid (HL.out.step HB1.out hgrow2 hown2 Hta.out HL.out.rb Hme.out (fun e he => List.mem_cons_of_mem _ he) (fun e he => he) (by simp only [List.length_cons, List.length_nil]; omega)); clear hown2 hgrow2 hat2 hlt2)
          go_roundg (gk - 1)
          case measure => simp only [List.length_cons, List.length_nil] at hg; omega
          case rel => exact ⟨_, _, _, by simp only [List.length_cons, List.length_nil] at hg ⊢; omega, Hst.out⟩
        · by_cases z2 : 0 < od
          · have z3 : ¬ od ≤ 0 := by omega
            have z4 : 0 ≤ od := by omega
            have Hme := Lib.hid (me_gt (f := f) (g := g) (r := r) (s := s) (by rw [← Hod.out]; exact z2))
            have Hbw := Lib.hid hL.bl
            clear hL
            go_wp2_with fail
            refine HF.out.mono ?_
            rintro e w1 ⟨rfl, hB1⟩
            have HB1 := Lib.hid hB1
            have HO1 := Lib.hid (own_below HL.out.ow hB1)
            have Hw1 := Lib.hid (Hbw.out.trans (hB1.mono Hbw.out.size))
            have kaw := (Hw1.out.cell (p := ⟨b1, o1, none⟩) hb1).trans hc1
            have kbw := (Hw1.out.cell (p := ⟨b2, o2, none⟩) hb2).trans hc2
            clear hB1
            go_wp2_with (at_builtin; go_must (refine wpList_append_lies _ rfl (.tmp 32) (.tmp 38) 73 rfl w.heap.size 77 i0 (.agg #[.string ⟨#[]⟩, .int .i64 0]) 2 24 Tryd.underlying73 hi hz0 hz1 hz2 rfl (by decide) u5 done.length (flatD done) rfl (HO1.out.alloc _) ⟨w1.heap.size, 0, none⟩ 1 1 [.string g.1, .int .i64 1] rfl rfl (two_new _ _ _ _) (by intro u hu; simp at hu; rcases hu with rfl | rfl <;> rfl) (by decide) (by have := HL.out.n; unfold maxLen; omega) (by have := HL.out.n; omega) (by have := HL.out.bl.size; have := HB1.out.size; simp; omega) (w1.heap.size + 1) (by simp) ?_); intro gg cap w2 hown2 hgrow2 hat2 hlt2; have Hst := Lib.hid (HL.out.step HB1.out hgrow2 hown2 HL.out.ra Htb.out Hme.out (fun e he => he) (fun e he => List.mem_cons_of_mem _ he) (by simp only [List.length_cons, List.length_nil]; omega)); clear hown2 hgrow2 hat2 hlt2)
            go_roundg (gk - 1)
            case measure => simp only [List.length_cons, List.length_nil] at hg; omega
            case rel => exact ⟨_, _, _, by simp only [List.length_cons, List.length_nil] at hg ⊢; omega, Hst.out⟩
          · have zz : od = 0 := by omega
            subst zz
            obtain ⟨rb, hre⟩ : ∃ rb, decide (f.2.1 = g.2.1) = rb := ⟨_, rfl⟩
            cases rb with
            | true =>
              have Hme := Lib.hid (me_eq (f := f) (g := g) (r := r) (s := s) Hod.out.symm (of_decide_eq_true hre))
              have Hbw := Lib.hid hL.bl
              clear hL
              go_wp2_with fail
              refine HF.out.mono ?_
              rintro e w1 ⟨rfl, hB1⟩
              have HB1 := Lib.hid hB1
              have HO1 := Lib.hid (own_below HL.out.ow hB1)
              have Hw1 := Lib.hid (Hbw.out.trans (hB1.mono Hbw.out.size))
              have kaw := (Hw1.out.cell (p := ⟨b1, o1, none⟩) hb1).trans hc1
              have kbw := (Hw1.out.cell (p := ⟨b2, o2, none⟩) hb2).trans hc2
              clear hB1
              have HQ1 := Lib.hid (fun v1 (h1 : Below w1.heap.size w1 v1) => run_loadVar_mid (P := Tryd.prog) v1 b1 (o1 + 1) 37 (bytV f.2.1) _ (fun j z hz => ((Hw1.out.trans (h1.mono Hw1.out.size)).cell (p := ⟨b1, o1 + 1 + j, none⟩) hb1).trans (hr1 j z hz)) Tryd.underlying37 rfl (by rw [bytV_len, h321]; kernel_rfl))
              have HQ2 := Lib.hid (fun v1 (h1 : Below w1.heap.size w1 v1) => run_loadVar_mid (P := Tryd.prog) v1 b2 (o2 + 1) 37 (bytV g.2.1) _ (fun j z hz => ((Hw1.out.trans (h1.mono Hw1.out.size)).cell (p := ⟨b2, o2 + 1 + j, none⟩) hb2).trans (hr2 j z hz)) Tryd.underlying37 rfl (by rw [bytV_len, h322]; kernel_rfl))
              have heq := fun v1 => eq_id h321 h322 v1
              rw [hre] at heq
              clear hr1 hr2 hre
              go_wp2_with fail
              refine wp_region_class (Below w1.heap.size w1) (by kernel_rfl) (by kernel_rfl) (Below.refl _ _).drew ?_
              repeat (go_big_quiet_step (first | (intro _; rfl)))
              refine wpQuiet_load_at rfl 37 (.tmp 43) rfl ⟨b1, o1 + 1, none⟩ rfl (.agg (bytV f.2.1).toArray) HQ1.out ?_
              simp only [Act.put, List.setIfInBounds_toArray, List.set_cons_succ, List.set_cons_zero]
              repeat (go_big_quiet_step (first | (intro _; rfl)))
              refine wpQuiet_load_at rfl 37 (.tmp 47) rfl ⟨b2, o2 + 1, none⟩ rfl (.agg (bytV g.2.1).toArray) HQ2.out ?_
              simp only [Act.put, List.setIfInBounds_toArray, List.set_cons_succ, List.set_cons_zero]
              repeat (go_big_quiet_step (first | (intro _; rfl)))
              refine wpQuiet_nil ?_
              intro w5 hBq
              have HB2 := HB1.out.trans (hBq.mono HB1.out.size)
              replace HB1 := Lib.hid HB2
              replace HO1 := Lib.hid (own_below HL.out.ow HB1.out)
              have Hw5 := Lib.hid (Hw1.out.trans (hBq.mono Hw1.out.size))
              have kaw5 := (Hw5.out.cell (p := ⟨b1, o1, none⟩) hb1).trans hc1
              clear hBq HB2 heq
              go_wp2_with fail
              have Hst := Lib.hid (HL.out.pass HB1.out Hta.out Htb.out Hme.out (fun e he => List.mem_cons_of_mem _ he) (fun e he => List.mem_cons_of_mem _ he) (by simp only [List.length_cons]; omega))
              go_roundg (gk - 2)
              case measure => simp only [List.length_cons, List.length_nil] at hg; omega
              case rel => exact ⟨_, _, _, by simp only [List.length_cons, List.length_nil] at hg ⊢; omega, Hst.out⟩
            | false =>
              have Hme := Lib.hid (me_ne (f := f) (g := g) (r := r) (s := s) Hod.out.symm (of_decide_eq_false hre))
              have Hbw := Lib.hid hL.bl
              clear hL
              go_wp2_with fail
              refine HF.out.mono ?_
              rintro e w1 ⟨rfl, hB1⟩
              have HB1 := Lib.hid hB1
              have HO1 := Lib.hid (own_below HL.out.ow hB1)
              have Hw1 := Lib.hid (Hbw.out.trans (hB1.mono Hbw.out.size))
              have kaw := (Hw1.out.cell (p := ⟨b1, o1, none⟩) hb1).trans hc1
              have kbw := (Hw1.out.cell (p := ⟨b2, o2, none⟩) hb2).trans hc2
              clear hB1
              have HQ1 := Lib.hid (fun v1 (h1 : Below w1.heap.size w1 v1) => run_loadVar_mid (P := Tryd.prog) v1 b1 (o1 + 1) 37 (bytV f.2.1) _ (fun j z hz => ((Hw1.out.trans (h1.mono Hw1.out.size)).cell (p := ⟨b1, o1 + 1 + j, none⟩) hb1).trans (hr1 j z hz)) Tryd.underlying37 rfl (by rw [bytV_len, h321]; kernel_rfl))
              have HQ2 := Lib.hid (fun v1 (h1 : Below w1.heap.size w1 v1) => run_loadVar_mid (P := Tryd.prog) v1 b2 (o2 + 1) 37 (bytV g.2.1) _ (fun j z hz => ((Hw1.out.trans (h1.mono Hw1.out.size)).cell (p := ⟨b2, o2 + 1 + j, none⟩) hb2).trans (hr2 j z hz)) Tryd.underlying37 rfl (by rw [bytV_len, h322]; kernel_rfl))
              have heq := fun v1 => eq_id h321 h322 v1
              rw [hre] at heq
              clear hr1 hr2 hre
              go_wp2_with fail
              refine wp_region_class (Below w1.heap.size w1) (by kernel_rfl) (by kernel_rfl) (Below.refl _ _).drew ?_
              repeat (go_big_quiet_step (first | (intro _; rfl)))
              refine wpQuiet_load_at rfl 37 (.tmp 43) rfl ⟨b1, o1 + 1, none⟩ rfl (.agg (bytV f.2.1).toArray) HQ1.out ?_
              simp only [Act.put, List.setIfInBounds_toArray, List.set_cons_succ, List.set_cons_zero]
              repeat (go_big_quiet_step (first | (intro _; rfl)))
              refine wpQuiet_load_at rfl 37 (.tmp 47) rfl ⟨b2, o2 + 1, none⟩ rfl (.agg (bytV g.2.1).toArray) HQ2.out ?_
              simp only [Act.put, List.setIfInBounds_toArray, List.set_cons_succ, List.set_cons_zero]
              repeat (go_big_quiet_step (first | (intro _; rfl)))
              refine wpQuiet_nil ?_
              intro w5 hBq
              have HB2 := HB1.out.trans (hBq.mono HB1.out.size)
              replace HB1 := Lib.hid HB2
              replace HO1 := Lib.hid (own_below HL.out.ow HB1.out)
              have Hw5 := Lib.hid (Hw1.out.trans (hBq.mono Hw1.out.size))
              have kaw5 := (Hw5.out.cell (p := ⟨b1, o1, none⟩) hb1).trans hc1
              clear hBq HB2 heq
              go_wp2_with (at_builtin; go_must (refine wpList_append_lies _ rfl (.tmp 50) (.tmp 56) 73 rfl w.heap.size 77 i0 (.agg #[.string ⟨#[]⟩, .int .i64 0]) 2 24 Tryd.underlying73 hi hz0 hz1 hz2 rfl (by decide) u5 done.length (flatD done) rfl (HO1.out.alloc _) ⟨w5.heap.size, 0, none⟩ 1 1 [.string f.1, .int .i64 3] rfl rfl (two_new _ _ _ _) (by intro u hu; simp at hu; rcases hu with rfl | rfl <;> rfl) (by decide) (by have := HL.out.n; unfold maxLen; omega) (by have := HL.out.n; omega) (by have := HL.out.bl.size; have := HB1.out.size; simp; omega) (w5.heap.size + 1) (by simp) ?_); intro gg cap w2 hown2 hgrow2 hat2 hlt2; have Hst := Lib.hid (HL.out.step HB1.out hgrow2 hown2 Hta.out Htb.out Hme.out (fun e he => List.mem_cons_of_mem _ he) (fun e he => List.mem_cons_of_mem _ he) (by simp only [List.length_cons, List.length_nil]; omega)); clear hown2 hgrow2 hat2 hlt2)
              go_roundg (gk - 2)
              case measure => simp only [List.length_cons, List.length_nil] at hg; omega
              case rel => exact ⟨_, _, _, by simp only [List.length_cons, List.length_nil] at hg ⊢; omega, Hst.out⟩

end Go.Proofs.YtdhaanaenklleaaDoor
