/- Walks: the law PathJoins. -/
import Derived.Test.YthgbclgdaaaefaaDoorWp
namespace Go.Proofs.YthgbclgdaaaefaaDoor
set_option linter.unusedVariables false
open Go.ChangeShapes Go.WideShapes Go.ChangeAt Go.RowKit

theorem refUnder_to (a p r : ByteArray) (b : Bool) (w : World) (ha : a.size ≤ 8192) (hp : p.size ≤ 8192) (h : underB a p = (r, b)) : (∀ w1, Below w.heap.size w w1 → Calls Tryd.prog 20 #[.string a, .string p] w1 fun e w' => e = .returned (.tuple #[.string r, .bool b]) ∧ Below w1.heap.size w1 w') := by
  intro w1 _
  have := refUnder_any a p w1 (by omega) (by omega)
  unfold Under2 at this
  rw [h] at this
  exact this.mono fun e w' h => ⟨h.1, below_eq h.2⟩
/-- The sum of the lengths. -/
def sumB : List ByteArray → Nat | [] => 0 | x :: r => x.size + sumB r
theorem sumB_app (a b : List ByteArray) : sumB (a ++ b) = sumB a + sumB b := by
  induction a with
  | nil => simp [sumB]
  | cons x r ih => simp [sumB, ih]; omega
theorem sum_take (L : List ByteArray) (k : Nat) (h : k < L.length) : sumB (L.take (k + 1)) = sumB (L.take k) + (L.getD k ByteArray.empty).size := by
  rw [take_getD L k h, sumB_app]; simp [sumB]
theorem cnt_sum (L : List ByteArray) : cnt L = sumB L + L.length := by
  induction L with
  | nil => rfl
  | cons x r ih => simp [cnt, sumB, ih]; omega

set_option maxHeartbeats 2000000 in
theorem joins_walk (v : Value) (ss : List ByteArray) (d p : ByteArray) (m : Int) (w : World) (hv : Strs w v ss) (hz : ∀ s ∈ ss, s.size ≤ 140737488351232) (hl : ss.length ≤ 9223372036854775807) (hd : d.size ≤ 140737488351232) (hp : p.size ≤ 140737488351232) (hm : w.cell? ⟨0, 0, none⟩ = some (.int .i64 m)) :
    Calls Tryd.prog 4 #[v, .string d, .string p] w (LawEnd w) := by
  have H9 := Lib.hid (alive_any m w hm)
  have Hv := Lib.hid hv
  obtain ⟨q, cap, rfl, hq⟩ := strs_shape hv
  have Hq := Lib.hid hq
  have Hz := Lib.hid hz
  obtain ⟨len, hlen⟩ : ∃ len, len = ss.length := ⟨_, rfl⟩
  rw [← hlen] at Hq hl Hv ⊢
  have Hlen := Lib.hid hlen
  clear hv hq hlen hz
  go_enter Tryd.func4, Tryd.ntmps4
  go_wp2_with fail
  refine H9.out.mono ?_
  rintro e w1 ⟨rfl, hB⟩
  go_wp2_with fail
  go_loopg [7, 9, 23] len (fun g nv _ iv wr => ∃ k : Nat, k + g = len ∧ iv = .int .i64 k ∧ nv = .int .i64 ((d.size + p.size + sumB (ss.take k) : Nat) : Int) ∧ (k = 0 ∨ (d.size + p.size + sumB (ss.take k) ≤ 1024 ∧ len ≤ 60)) ∧ w1 = wr)
  case atStart => exact ⟨0, by omega, rfl, by simp [sumB], .inl rfl, rfl⟩
  case round =>
    obtain ⟨k, hkg, rfl, rfl, hk, rfl⟩ := hrel
    by_cases hlt : k < len
    · obtain ⟨b, off, rfl, hb, hcap, hmax, hcell⟩ := Hq.out (by omega)
      have hc := (hB.cell (p := ⟨b, off + k, none⟩) hb).trans (hcell k hlt)
      have hkl : k < ss.length := by have := Hlen.out; omega
      have hst := sum_take ss k hkl
      have hxz : (ss.getD k ByteArray.empty).size ≤ 140737488351232 := Hz.out _ (by simp only [List.getD, List.getElem?_eq_getElem hkl, Option.getD_some]; exact List.getElem_mem hkl)
      unfold maxLen at hmax
      obtain ⟨x, hx⟩ : ∃ x, x = ss.getD k ByteArray.empty := ⟨_, rfl⟩
      rw [← hx] at hc hst hxz
      clear hx hcell
      have hn : d.size + p.size + sumB (ss.take k) ≤ 281474976702464 := by
        rcases hk with rfl | ⟨h, _⟩
        · simp [sumB]; omega
        · omega
      have Hk := Lib.hid hk
      have Hst := Lib.hid hst
      clear hk hst
      obtain ⟨n, hnn⟩ : ∃ n, n = d.size + p.size + sumB (ss.take k) := ⟨_, rfl⟩
      rw [← hnn] at hn ⊢
      have Hnn := Lib.hid hnn
      clear hnn
      by_cases h1 : n + x.size ≤ 1024
      · have h1I : (n : Int) + (x.size : Int) ≤ 1024 := by omega
        by_cases h2 : len ≤ 60
        · have h2I : (len : Int) ≤ 60 := by omega
          go_wp2_with fail
          go_roundg (gk - 1)
          case measure => omega
          case rel => exact ⟨k + 1, by omega, by go_num, by rw [Hst.out]; have := Hnn.out; congr 1; omega, .inr ⟨by rw [Hst.out]; have := Hnn.out; omega, h2⟩, rfl⟩
        · have h2I : ¬ (len : Int) ≤ 60 := by omega
          go_wp2_with fail
          go_ret
          exact ⟨rfl, hB⟩
      · have h1I : ¬ (n : Int) + (x.size : Int) ≤ 1024 := by omega
        go_wp2_with fail
        go_ret
        exact ⟨rfl, hB⟩
    · have hkl : ss.take k = ss := List.take_of_length_le (by have := Hlen.out; omega)
      rw [hkl] at hk ⊢
      clear hkl
      by_cases h1 : d.size + p.size + sumB ss ≤ 1024
      · have hcs := cnt_sum ss
        have hl2 : len ≤ 60 := by
          rcases hk with h | ⟨_, h⟩
          · omega
          · exact h
        have hcn : cnt ss ≤ 1084 := by have := Hlen.out; omega
        have h1I : ((d.size + p.size + sumB ss : Nat) : Int) ≤ 1024 := by omega
        have HU := Lib.hid (under_to d p (underB d p).1 (underB d p).2 w rfl)
        have HV := Lib.hid (refUnder_to d p (underB d p).1 (underB d p).2 w (by omega) (by omega) rfl)
        have HJ := Lib.hid (fun (w2 : World) (hB2 : Below w.heap.size w w2) => pjoin_any _ ss w2 (Hv.out.below hB2) (by omega))
        have HK := Lib.hid (fun (w2 : World) (hB2 : Below w.heap.size w w2) => refJoin_any _ ss w2 (Hv.out.below hB2) (by omega))
        clear hk hcs
        generalize joinS ss = j at *
        generalize (underB d p).1 = r at *
        obtain ⟨n, hnn⟩ : ∃ n, n = d.size + p.size + sumB ss := ⟨_, rfl⟩
        rw [← hnn] at h1I h1 ⊢
        clear hnn
        cases hu : (underB d p).2 with
        | true =>
          rw [hu] at HU HV
          clear hu
          go_wp2_with fail
          refine (HU.out _ hB).mono ?_
          rintro e w2 ⟨rfl, hB2⟩
          replace hB := hB.trans (hB2.mono hB.size)
          clear hB2
          go_wp2_with fail
          refine (HV.out _ hB).mono ?_
          rintro e w3 ⟨rfl, hB2⟩
          replace hB := hB.trans (hB2.mono hB.size)
          clear hB2
          go_wp2_with fail
          refine (HJ.out _ hB).mono ?_
          rintro e w4 ⟨rfl, hB2⟩
          replace hB := hB.trans (hB2.mono hB.size)
          clear hB2
          go_wp2_with fail
          refine (HK.out _ hB).mono ?_
          rintro e w5 ⟨rfl, rfl⟩
          go_wp2_with fail
          go_ret
          exact ⟨rfl, hB⟩
        | false =>
          rw [hu] at HU HV
          clear hu
          go_wp2_with fail
          refine (HU.out _ hB).mono ?_
          rintro e w2 ⟨rfl, hB2⟩
          replace hB := hB.trans (hB2.mono hB.size)
          clear hB2
          go_wp2_with fail
          refine (HV.out _ hB).mono ?_
          rintro e w3 ⟨rfl, hB2⟩
          replace hB := hB.trans (hB2.mono hB.size)
          clear hB2
          go_wp2_with fail
          refine (HJ.out _ hB).mono ?_
          rintro e w4 ⟨rfl, hB2⟩
          replace hB := hB.trans (hB2.mono hB.size)
          clear hB2
          go_wp2_with fail
          refine (HK.out _ hB).mono ?_
          rintro e w5 ⟨rfl, rfl⟩
          go_wp2_with fail
          go_ret
          exact ⟨rfl, hB⟩
      · have h1I : ¬ ((d.size + p.size + sumB ss : Nat) : Int) ≤ 1024 := by omega
        obtain ⟨n, hnn⟩ : ∃ n, n = d.size + p.size + sumB ss := ⟨_, rfl⟩
        rw [← hnn] at h1I h1 ⊢
        clear hnn
        go_wp2_with fail
        go_ret
        exact ⟨rfl, hB⟩
end Go.Proofs.YthgbclgdaaaefaaDoor
