/- Walks: the law PathBack. -/
import Derived.Test.YthgbclgdaaaefaaDoorWn
namespace Go.Proofs.YthgbclgdaaaefaaDoor
set_option linter.unusedVariables false
open Go.ChangeShapes Go.WideShapes Go.ChangeAt Go.RowKit

set_option maxHeartbeats 1000000 in
theorem back_0 (p dir d b r : ByteArray) (m : Int) (w : World) (hs : p.size + dir.size ≤ 1024) (hm : w.cell? ⟨0, 0, none⟩ = some (.int .i64 m))
    (HS : ∀ w1, Below w.heap.size w w1 → Calls Tryd.prog 13 #[.string p] w1 fun e w' => ∃ v, e = .returned v ∧ Below w1.heap.size w1 w' ∧ Calls Tryd.prog 21 #[v] w' fun e w2 => e = .returned (.string p) ∧ Below w'.heap.size w' w2)
    (HJ : ∀ w1, Calls Tryd.prog 21 #[.slice (some ⟨w1.heap.size, 0, none⟩) 2 2] (w1.alloc (.cells #[.string d, .string b] 9)) fun e w' => e = .returned (.string p) ∧ Below w1.heap.size w1 w')
    (HG : (∀ w1, Below w.heap.size w w1 → Calls Tryd.prog 11 #[.string p] w1 fun e w' => e = .returned (.bool true) ∧ Below w1.heap.size w1 w')) (HD : (∀ w1, Below w.heap.size w w1 → Calls Tryd.prog 15 #[.string p] w1 fun e w' => e = .returned (.string d) ∧ Below w1.heap.size w1 w')) (HB : (∀ w1, Below w.heap.size w w1 → Calls Tryd.prog 17 #[.string p] w1 fun e w' => e = .returned (.string b) ∧ Below w1.heap.size w1 w')) (HU : (∀ w1, Below w.heap.size w w1 → Calls Tryd.prog 19 #[.string dir, .string p] w1 fun e w' => e = .returned (.tuple #[.string r, .bool false]) ∧ Below w1.heap.size w1 w')) (HV : (∀ w1, Below w.heap.size w w1 → Calls Tryd.prog 19 #[.string d, .string p] w1 fun e w' => e = .returned (.tuple #[.string b, .bool true]) ∧ Below w1.heap.size w1 w')) :
    Calls Tryd.prog 5 #[.string p, .string dir] w (LawEnd w) := by
  have hsI : (p.size : Int) + (dir.size : Int) ≤ 1024 := by omega
  have h1 : p.size ≤ 1024 := by omega
  have h2 : dir.size ≤ 1024 := by omega
  have H9 := Lib.hid (alive_any m w hm)
  have HG' := Lib.hid HG
  have HD' := Lib.hid HD
  have HB' := Lib.hid HB
  have HU' := Lib.hid HU
  have HV' := Lib.hid HV
  have HS' := Lib.hid HS
  have HJ' := Lib.hid HJ
  clear HG HD HB HU HV HS HJ
  go_enter Tryd.func5, Tryd.ntmps5
  go_wp2_with fail
  refine H9.out.mono ?_
  rintro e w1 ⟨rfl, hB⟩
  go_wp2_with fail
  refine (HG'.out _ hB).mono ?_
  rintro e w2 ⟨rfl, hB2⟩
  replace hB := hB.trans (hB2.mono hB.size)
  clear hB2
  go_wp2_with fail
  refine (HS'.out _ hB).mono ?_
  rintro e w3 ⟨v, rfl, hB2, hj⟩
  have Hj := Lib.hid hj
  replace hB := hB.trans (hB2.mono hB.size)
  clear hB2 hj
  go_wp2_with fail
  refine (Hj.out).mono ?_
  rintro e w4 ⟨rfl, hB2⟩
  replace hB := hB.trans (hB2.mono hB.size)
  clear hB2
  go_wp2_with fail
  refine (HD'.out _ hB).mono ?_
  rintro e w5 ⟨rfl, hB2⟩
  replace hB := hB.trans (hB2.mono hB.size)
  clear hB2
  go_wp2_with fail
  refine (HB'.out _ hB).mono ?_
  rintro e w6 ⟨rfl, hB2⟩
  replace hB := hB.trans (hB2.mono hB.size)
  clear hB2
  go_wp2_with fail
  refine (HJ'.out _).mono ?_
  rintro e w7 ⟨rfl, hB2⟩
  replace hB := hB.trans (hB2.mono hB.size)
  clear hB2
  go_wp2_with fail
  refine (HU'.out _ hB).mono ?_
  rintro e w8 ⟨rfl, hB2⟩
  replace hB := hB.trans (hB2.mono hB.size)
  clear hB2
  go_wp2_with fail
  refine (HD'.out _ hB).mono ?_
  rintro e w9 ⟨rfl, hB2⟩
  replace hB := hB.trans (hB2.mono hB.size)
  clear hB2
  go_wp2_with fail
  refine (HV'.out _ hB).mono ?_
  rintro e w10 ⟨rfl, hB2⟩
  replace hB := hB.trans (hB2.mono hB.size)
  clear hB2
  go_wp2_with fail
  refine (HB'.out _ hB).mono ?_
  rintro e w11 ⟨rfl, hB2⟩
  replace hB := hB.trans (hB2.mono hB.size)
  clear hB2
  go_wp2_with fail
  go_ret
  exact ⟨rfl, hB⟩
set_option maxHeartbeats 1000000 in
theorem back_1 (p dir d b r : ByteArray) (m : Int) (w : World) (hs : p.size + dir.size ≤ 1024) (hm : w.cell? ⟨0, 0, none⟩ = some (.int .i64 m))
    (HS : ∀ w1, Below w.heap.size w w1 → Calls Tryd.prog 13 #[.string p] w1 fun e w' => ∃ v, e = .returned v ∧ Below w1.heap.size w1 w' ∧ Calls Tryd.prog 21 #[v] w' fun e w2 => e = .returned (.string p) ∧ Below w'.heap.size w' w2)
    (HJ : ∀ w1, Calls Tryd.prog 21 #[.slice (some ⟨w1.heap.size, 0, none⟩) 2 2] (w1.alloc (.cells #[.string d, .string b] 9)) fun e w' => e = .returned (.string p) ∧ Below w1.heap.size w1 w')
    (HK : ∀ w1, Calls Tryd.prog 21 #[.slice (some ⟨w1.heap.size, 0, none⟩) 2 2] (w1.alloc (.cells #[.string dir, .string r] 9)) fun e w' => e = .returned (.string p) ∧ Below w1.heap.size w1 w')
    (HG : (∀ w1, Below w.heap.size w w1 → Calls Tryd.prog 11 #[.string p] w1 fun e w' => e = .returned (.bool true) ∧ Below w1.heap.size w1 w')) (HD : (∀ w1, Below w.heap.size w w1 → Calls Tryd.prog 15 #[.string p] w1 fun e w' => e = .returned (.string d) ∧ Below w1.heap.size w1 w')) (HB : (∀ w1, Below w.heap.size w w1 → Calls Tryd.prog 17 #[.string p] w1 fun e w' => e = .returned (.string b) ∧ Below w1.heap.size w1 w')) (HU : (∀ w1, Below w.heap.size w w1 → Calls Tryd.prog 19 #[.string dir, .string p] w1 fun e w' => e = .returned (.tuple #[.string r, .bool true]) ∧ Below w1.heap.size w1 w')) (HV : (∀ w1, Below w.heap.size w w1 → Calls Tryd.prog 19 #[.string d, .string p] w1 fun e w' => e = .returned (.tuple #[.string b, .bool true]) ∧ Below w1.heap.size w1 w')) :
    Calls Tryd.prog 5 #[.string p, .string dir] w (LawEnd w) := by
  have hsI : (p.size : Int) + (dir.size : Int) ≤ 1024 := by omega
  have h1 : p.size ≤ 1024 := by omega
  have h2 : dir.size ≤ 1024 := by omega
  have H9 := Lib.hid (alive_any m w hm)
  have HG' := Lib.hid HG
  have HD' := Lib.hid HD
  have HB' := Lib.hid HB
  have HU' := Lib.hid HU
  have HV' := Lib.hid HV
  have HS' := Lib.hid HS
  have HJ' := Lib.hid HJ
  have HK' := Lib.hid HK
  clear HG HD HB HU HV HS HJ HK
  go_enter Tryd.func5, Tryd.ntmps5
  go_wp2_with fail
  refine H9.out.mono ?_
  rintro e w1 ⟨rfl, hB⟩
  go_wp2_with fail
  refine (HG'.out _ hB).mono ?_
  rintro e w2 ⟨rfl, hB2⟩
  replace hB := hB.trans (hB2.mono hB.size)
  clear hB2
  go_wp2_with fail
  refine (HS'.out _ hB).mono ?_
  rintro e w3 ⟨v, rfl, hB2, hj⟩
  have Hj := Lib.hid hj
  replace hB := hB.trans (hB2.mono hB.size)
  clear hB2 hj
  go_wp2_with fail
  refine (Hj.out).mono ?_
  rintro e w4 ⟨rfl, hB2⟩
  replace hB := hB.trans (hB2.mono hB.size)
  clear hB2
  go_wp2_with fail
  refine (HD'.out _ hB).mono ?_
  rintro e w5 ⟨rfl, hB2⟩
  replace hB := hB.trans (hB2.mono hB.size)
  clear hB2
  go_wp2_with fail
  refine (HB'.out _ hB).mono ?_
  rintro e w6 ⟨rfl, hB2⟩
  replace hB := hB.trans (hB2.mono hB.size)
  clear hB2
  go_wp2_with fail
  refine (HJ'.out _).mono ?_
  rintro e w7 ⟨rfl, hB2⟩
  replace hB := hB.trans (hB2.mono hB.size)
  clear hB2
  go_wp2_with fail
  refine (HU'.out _ hB).mono ?_
  rintro e w8 ⟨rfl, hB2⟩
  replace hB := hB.trans (hB2.mono hB.size)
  clear hB2
  go_wp2_with fail
  refine (HD'.out _ hB).mono ?_
  rintro e w9 ⟨rfl, hB2⟩
  replace hB := hB.trans (hB2.mono hB.size)
  clear hB2
  go_wp2_with fail
  refine (HV'.out _ hB).mono ?_
  rintro e w10 ⟨rfl, hB2⟩
  replace hB := hB.trans (hB2.mono hB.size)
  clear hB2
  go_wp2_with fail
  refine (HK'.out _).mono ?_
  rintro e w11 ⟨rfl, hB2⟩
  replace hB := hB.trans (hB2.mono hB.size)
  clear hB2
  go_wp2_with fail
  refine (HB'.out _ hB).mono ?_
  rintro e w12 ⟨rfl, hB2⟩
  replace hB := hB.trans (hB2.mono hB.size)
  clear hB2
  go_wp2_with fail
  go_ret
  exact ⟨rfl, hB⟩
theorem back_long (p dir : ByteArray) (m : Int) (w : World) (h1 : p.size ≤ 140737488351232) (h2 : dir.size ≤ 140737488351232) (hs : ¬ (p.size : Int) + (dir.size : Int) ≤ 1024) (hm : w.cell? ⟨0, 0, none⟩ = some (.int .i64 m)) : Calls Tryd.prog 5 #[.string p, .string dir] w (LawEnd w) := by
  have H9 := Lib.hid (alive_any m w hm)
  go_enter Tryd.func5, Tryd.ntmps5
  go_wp2_with fail
  refine H9.out.mono ?_
  rintro e w1 ⟨rfl, hB⟩
  go_wp2_with fail
  go_ret
  exact ⟨rfl, hB⟩
theorem back_bad (p dir : ByteArray) (m : Int) (w : World) (h1 : p.size ≤ 1024) (h2 : dir.size ≤ 1024) (hs : (p.size : Int) + (dir.size : Int) ≤ 1024) (hm : w.cell? ⟨0, 0, none⟩ = some (.int .i64 m)) (HG : (∀ w1, Below w.heap.size w w1 → Calls Tryd.prog 11 #[.string p] w1 fun e w' => e = .returned (.bool false) ∧ Below w1.heap.size w1 w')) : Calls Tryd.prog 5 #[.string p, .string dir] w (LawEnd w) := by
  have H9 := Lib.hid (alive_any m w hm)
  have HG' := Lib.hid HG
  clear HG
  go_enter Tryd.func5, Tryd.ntmps5
  go_wp2_with fail
  refine H9.out.mono ?_
  rintro e w1 ⟨rfl, hB⟩
  go_wp2_with fail
  refine (HG'.out _ hB).mono ?_
  rintro e w2 ⟨rfl, hB2⟩
  replace hB := hB.trans (hB2.mono hB.size)
  clear hB2
  go_wp2_with fail
  go_ret
  exact ⟨rfl, hB⟩
theorem below_eq {w w' : World} (h : w = w') : Below w.heap.size w w' := by subst h; exact Below.refl _ _
theorem under_to (a p r : ByteArray) (b : Bool) (w : World) (h : underB a p = (r, b)) : (∀ w1, Below w.heap.size w w1 → Calls Tryd.prog 19 #[.string a, .string p] w1 fun e w' => e = .returned (.tuple #[.string r, .bool b]) ∧ Below w1.heap.size w1 w') := by
  intro w1 _
  have := under_any a p w1
  unfold Under2 at this
  rw [h] at this
  exact this.mono fun e w' h => ⟨h.1, below_eq h.2⟩
theorem back_walk (p dir : ByteArray) (m : Int) (w : World) (s0 : p.size ≤ 140737488351232) (s1 : dir.size ≤ 140737488351232) (hm : w.cell? ⟨0, 0, none⟩ = some (.int .i64 m)) : Calls Tryd.prog 5 #[.string p, .string dir] w (LawEnd w) := by
  by_cases hs : p.size + dir.size ≤ 1024
  · cases hg : goodB p with
    | false => exact back_bad p dir m w (by omega) (by omega) (by omega) hm (refGood_to p false w (by omega) hg)
    | true =>
      have HG := refGood_to p true w (by omega) hg
      have HD : (∀ w1, Below w.heap.size w w1 → Calls Tryd.prog 15 #[.string p] w1 fun e w' => e = .returned (.string (dirB p)) ∧ Below w1.heap.size w1 w') := fun w1 _ => (dir_any p w1 (by omega)).mono fun e w' h => ⟨h.1, below_eq h.2⟩
      have HB : (∀ w1, Below w.heap.size w w1 → Calls Tryd.prog 17 #[.string p] w1 fun e w' => e = .returned (.string (baseB p)) ∧ Below w1.heap.size w1 w') := fun w1 _ => (base_any p w1 (by omega)).mono fun e w' h => ⟨h.1, below_eq h.2⟩
      have HV := under_to (dirB p) p _ _ w (under_dir hg)
      have HU := under_to dir p (underB dir p).1 (underB dir p).2 w rfl
      have HS : ∀ w1, Below w.heap.size w w1 → Calls Tryd.prog 13 #[.string p] w1 fun e w' => ∃ v, e = .returned v ∧ Below w1.heap.size w1 w' ∧ Calls Tryd.prog 21 #[v] w' fun e w2 => e = .returned (.string p) ∧ Below w'.heap.size w' w2 := by
        intro w1 hB
        refine (psplit_any p m w1 (by omega) (hm_below hm hB)).mono ?_
        rintro e w' ⟨v, rfl, hv, hB2⟩
        have := pjoin_any v (splitL p) w' (Strs.ofRow hv) (by have := splitL_cnt p; omega)
        rw [good_join hg] at this
        exact ⟨v, rfl, hB2, this⟩
      have HJ : ∀ w1, Calls Tryd.prog 21 #[.slice (some ⟨w1.heap.size, 0, none⟩) 2 2] (w1.alloc (.cells #[.string (dirB p), .string (baseB p)] 9)) fun e w' => e = .returned (.string p) ∧ Below w1.heap.size w1 w' := by
        intro w1
        have h1 : (dirB p).size ≤ p.size := by unfold dirB; rw [ByteArray.size_extract]; omega
        have h2 : (baseB p).size ≤ p.size := by unfold baseB; rw [ByteArray.size_extract]; omega
        have := join2_any (dirB p) (baseB p) w1 (by omega)
        rw [jn_dir hg] at this
        exact this
      cases hu : (underB dir p).2 with
      | false =>
        rw [hu] at HU
        exact back_0 p dir _ _ _ m w hs hm HS HJ HG HD HB HU HV
      | true =>
        rw [hu] at HU
        have e : underB dir p = ((underB dir p).1, true) := by rw [← hu]
        have hj := under_spec e (good_some hg)
        have HK : ∀ w1, Calls Tryd.prog 21 #[.slice (some ⟨w1.heap.size, 0, none⟩) 2 2] (w1.alloc (.cells #[.string dir, .string (underB dir p).1] 9)) fun e w' => e = .returned (.string p) ∧ Below w1.heap.size w1 w' := by
          intro w1
          have hr : (underB dir p).1.size ≤ p.size := by
            cases hd : some1 dir with
            | false => rw [under_empty dir p hd]; exact Nat.le_refl _
            | true =>
              have h1 : some1 (underB dir p).1 = true ∨ some1 (underB dir p).1 = false := by cases some1 (underB dir p).1 <;> simp
              rcases h1 with h1 | h1
              · rw [jn_two hd h1] at hj
                have := congrArg ByteArray.size hj
                rw [app_size, app_size] at this; omega
              · rw [empty_of _ h1]; exact Nat.zero_le _
          have := join2_any dir (underB dir p).1 w1 (by omega)
          rw [hj] at this
          exact this
        exact back_1 p dir _ _ _ m w hs hm HS HJ HK HG HD HB HU HV
  · exact back_long p dir m w s0 s1 (by omega) hm
end Go.Proofs.YthgbclgdaaaefaaDoor
