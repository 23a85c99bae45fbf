/- Walks: the law ExprMeans. -/
import Derived.Test.YtgfcangnfdndpaaDoorPe
import Derived.Test.YtgfcangnfdndpaaDoorWj
namespace Go.Proofs.YtgfcangnfdndpaaDoor
set_option linter.unusedVariables false
open Go.ChangeShapes Go.WideShapes Go.ChangeAt Go.RowKit

theorem blanks_list (s : ByteArray) : ((⟨#[32, 9]⟩ : ByteArray) ++ s ++ ⟨#[32]⟩).data.toList = 32 :: 9 :: (s.data.toList ++ [32]) := by
  simp only [ba_append]; simp
theorem brack_list (s : ByteArray) : ((⟨#[40]⟩ : ByteArray) ++ s ++ ⟨#[41]⟩).data.toList = 40 :: (s.data.toList ++ [41]) := by
  simp only [ba_append]; simp
theorem size_two (a b c : ByteArray) : (a ++ b ++ c).size = a.size + b.size + c.size := by simp [ByteArray.size_append]

set_option maxHeartbeats 2000000 in
theorem means_walk (u : Value) (s : ByteArray) (on : List ByteArray) (w : World) (hu : Strs w u on) (hl : on.length ≤ 9223372036854775807) :
    Calls Tryd.prog 5 #[.string s, u] w (LawEnd w) := by
  have H10 := Lib.hid (alive_any w)
  have Hu := Lib.hid hu
  obtain ⟨pu, capu, hpu, _⟩ := strs_shape hu
  clear hu
  by_cases hle : s.size ≤ 900
  · have hleI : (s.size : Int) ≤ 900 := by omega
    by_cases hln : on.length ≤ 60
    · have hlnI : (on.length : Int) ≤ 60 := by omega
      have hz1 : ((⟨#[32, 9]⟩ : ByteArray) ++ s ++ ⟨#[32]⟩).size ≤ 1024 := by rw [size_two]; show 2 + s.size + 1 ≤ 1024; omega
      have hz2 : ((⟨#[40]⟩ : ByteArray) ++ s ++ ⟨#[41]⟩).size ≤ 1024 := by rw [size_two]; show 1 + s.size + 1 ≤ 1024; omega
      have HP := Lib.hid (fun w1 => parse_any s w1 (by omega))
      have HP1 := Lib.hid (fun w1 => parse_any ((⟨#[32, 9]⟩ : ByteArray) ++ s ++ ⟨#[32]⟩) w1 (by omega))
      have HP2 := Lib.hid (fun w1 => parse_any ((⟨#[40]⟩ : ByteArray) ++ s ++ ⟨#[41]⟩) w1 (by omega))
      have hcode := parse_code s
      have hlen := parse_len (s := s) (by omega)
      have hb1 := fun l h => parse_blanks (s := s) (l := l) h (blanks_list s) hz1
      have hb2 := fun l h => parse_brack (s := s) (l := l) h (brack_list s) hz2
      unfold Parsed at HP HP1 HP2
      obtain ⟨⟨l, c⟩, hr⟩ : ∃ r, parseR s = r := ⟨_, rfl⟩
      rw [hr] at HP hcode hlen
      simp only at HP hlen
      by_cases hc : c = 0
      · subst hc
        obtain ⟨e, he, hle'⟩ := hcode l rfl
        have hsz := code_size 1024 (by decide) e he
        have hev := evalR_code on 1024 e he
        rw [← hle'] at hsz hev
        rw [hb1 l hr] at HP1
        have HE := Lib.hid (fun (v : Value) (w1 : World) (hv : Strs w1 v l) (hB : Below w.heap.size w w1) => eval_any v u l on w1 hv (Hu.out.below hB) (by omega) (by omega) (fun x hx => by have := hsz x hx; omega))
        unfold Evald at HE
        rw [hev] at HE
        have HS := Lib.hid (fun (v z : Value) (w1 : World) (hv : Strs w1 v l) (hz : Strs w1 z l) => same_any v z l l w1 hv hz (by omega) (by omega))
        rw [decide_eq_true (rfl : l = l)] at HS
        generalize val on e = b at *
        have hcc : parseR ((⟨#[40]⟩ : ByteArray) ++ s ++ ⟨#[41]⟩) = (l, 0) ∨ parseR ((⟨#[40]⟩ : ByteArray) ++ s ++ ⟨#[41]⟩) = ([], 8) := (hb2 l hr).imp (fun h => h.1) id
        clear hb1 hb2 hev hsz hr hcode hlen he hle'
        rcases hcc with hcc | hcc
        all_goals
          rw [hcc] at HP2
          clear hcc
          subst hpu
          go_enter Tryd.func5, Tryd.ntmps5
          go_wp2_with fail
          refine H10.out.mono ?_
          rintro e' w1 ⟨rfl, hB⟩
          go_wp2_with fail
          refine (HP.out _).mono ?_
          rintro e' w2 ⟨v, rfl, hv, hB2⟩
          replace hB := hB.trans (hB2.mono hB.size)
          have Hv := Lib.hid hv
          clear hB2 hv
          go_wp2_with fail
          refine (HE.out _ _ Hv.out hB).mono ?_
          rintro e' w3 ⟨rfl, hB2⟩
          replace hB := hB.trans (hB2.mono hB.size)
          have Hv3 := Lib.hid (Hv.out.below hB2)
          clear hB2 Hv
          go_wp2_with fail
          refine (HP1.out _).mono ?_
          rintro e' w4 ⟨v4, rfl, hv4, hB2⟩
          replace hB := hB.trans (hB2.mono hB.size)
          have Hv := Lib.hid (Hv3.out.below hB2)
          have Hv4 := Lib.hid hv4
          clear hB2 Hv3 hv4
          go_wp2_with fail
          refine (HS.out _ _ _ Hv.out Hv4.out).mono ?_
          rintro e' w5 ⟨rfl, k5, rfl⟩
          replace hB := below_drewN hB k5
          have Hv5 := Lib.hid (Hv.out.below (below_drewN (Below.refl _ _) k5))
          clear Hv Hv4
          go_wp2_with fail
          refine (HP2.out _).mono ?_
          rintro e' w6 ⟨v6, rfl, hv6, hB2⟩
          replace hB := hB.trans (hB2.mono hB.size)
          have Hv := Lib.hid (Hv5.out.below hB2)
          have Hv6 := Lib.hid hv6
          clear hB2 Hv5 hv6
        · go_wp2_with fail
          refine (HE.out _ _ Hv6.out hB).mono ?_
          rintro e' w7 ⟨rfl, hB2⟩
          replace hB := hB.trans (hB2.mono hB.size)
          have Hv7 := Lib.hid (Hv.out.below hB2)
          have Hv67 := Lib.hid (Hv6.out.below hB2)
          clear hB2 Hv Hv6
          go_wp2_with fail
          refine (HS.out _ _ _ Hv7.out Hv67.out).mono ?_
          rintro e' w8 ⟨rfl, k8, rfl⟩
          replace hB := below_drewN hB k8
          go_wp2_with fail
          go_ret
          exact ⟨rfl, hB⟩
        · go_wp2_with fail
          go_ret
          exact ⟨rfl, hB⟩
      · obtain ⟨c1, c2⟩ := err_ne hc
        clear hcode hr hb1 hb2
        subst hpu
        go_enter Tryd.func5, Tryd.ntmps5
        go_wp2_with fail
        refine H10.out.mono ?_
        rintro e' w1 ⟨rfl, hB⟩
        go_wp2_with fail
        refine (HP.out _).mono ?_
        rintro e' w2 ⟨v, rfl, hv, hB2⟩
        replace hB := hB.trans (hB2.mono hB.size)
        clear hB2 hv
        go_wp2_with fail
        go_ret
        exact ⟨rfl, hB⟩
    · have hlnI : ¬ (on.length : Int) ≤ 60 := by omega
      subst hpu
      go_enter Tryd.func5, Tryd.ntmps5
      go_wp2_with fail
      refine H10.out.mono ?_
      rintro e' w1 ⟨rfl, hB⟩
      go_wp2_with fail
      go_ret
      exact ⟨rfl, hB⟩
  · have hleI : ¬ (s.size : Int) ≤ 900 := by omega
    subst hpu
    go_enter Tryd.func5, Tryd.ntmps5
    go_wp2_with fail
    refine H10.out.mono ?_
    rintro e' w1 ⟨rfl, hB⟩
    go_wp2_with fail
    go_ret
    exact ⟨rfl, hB⟩
end Go.Proofs.YtgfcangnfdndpaaDoor
