/- Walks: what stands at a place is taken in. -/
import Derived.Test.YtejogobhnbjpdaaDoorKg
import Derived.Test.YtejogobhnbjpdaaDoorGx
namespace Go.Proofs.YtejogobhnbjpdaaDoor
set_option linter.unusedVariables false
set_option linter.unusedSimpArgs false
open Go.ChangeShapes Go.WideShapes Go.ChangeAt Go.RowKit

/-- What next does with what stands there. -/
def NextR (b : Nat) (s : ByteArray) (at_ : Nat) (T M : List Tk) (t : Th) (w : World) (r : Ending) (w' : World) : Prop :=
  (∃ f, t = .bad f ∧ r = .returned (.int .i64 (f : Nat)) ∧ Lx b s at_ T M w' ∧ Below b w w') ∨ (t.ok = true ∧ r = .returned (.int .i64 (-1)) ∧ Lx b s (t.en at_) (lNext s at_ T t) (mNext s at_ M t) w' ∧ Below b w w')
set_option maxRecDepth 100000 in
theorem note_bad (b : Nat) (f : Nat) (w : World) :
    Calls Tryd.prog 64 #[.pointer (some ⟨b, 0, none⟩), .int .i64 0, .int .i64 (f : Nat)] w fun r w' => r = .returned (.int .i64 (f : Nat)) ∧ w = w' := by
  have hf : ((f : Int) == -1) = false := beq_eq_false_iff_ne.2 (by omega)
  go_enter Tryd.func64, Tryd.ntmps64
  go_wp2_with fail
  go_ret
  exact ⟨rfl, rfl⟩
theorem slice_lo (s : ByteArray) (i : Nat) (h1 : i ≤ s.size) (w : World) : (Instr.sliceAt 9 (.string s) (some (.int .i64 (i : Nat))) none none).run Tryd.prog w = .ok (.string (s.extract i s.size)) w := by
  have h3 : (i : Int) ≤ s.size := by omega
  simp [Instr.sliceAt, go_sem, h1, h3]

theorem min3 (n : Nat) : min (3 : Int) (n : Int) = ((min 3 n : Nat) : Int) := by omega
set_option maxRecDepth 100000 in
set_option maxHeartbeats 1000000 in
theorem sign_go (b : Nat) (s : ByteArray) (at_ : Nat) (T M : List Tk) (w : World) (h : Lx b s at_ T M w) (hq : at_ < s.size) (hs : s.size ≤ 1048576) (hT : T.length ≤ 16777216) :
    Calls Tryd.prog 73 #[.pointer (some ⟨b, 0, none⟩)] w fun r w' => NextR b s at_ T M (if signN s at_ = 0 then .bad at_ else .tok 5 (at_ + signN s at_)) w r w' := by
  obtain ⟨t, ht⟩ : ∃ t, t = (if signN s at_ = 0 then Th.bad at_ else .tok 5 (at_ + signN s at_)) := ⟨_, rfl⟩
  rw [← ht]
  have HTh0 := Lib.hid (show signN s at_ = 0 → t = .bad at_ from fun h => by rw [ht, if_pos h])
  have HThn := Lib.hid (show ∀ n, n ≠ 0 → signN s at_ = n → t = .tok 5 (at_ + n) from fun n h0 h => by rw [ht, h, if_neg h0])
  clear ht
  have c0 := h.tx.c0
  have c1 := h.tx.c1
  have hqI : (at_ : Int) ≤ (s.size : Int) := by omega
  have hqN : at_ ≤ s.size := by omega
  have HX := Lib.hid h
  clear h
  obtain ⟨x, hx⟩ : ∃ x, x = s.extract at_ s.size := ⟨_, rfl⟩
  have hxs : x.size = s.size - at_ := by rw [hx, ByteArray.size_extract]; omega
  have hmin := min3 x.size
  -- what the loop tries: n signs
  have HI := Lib.hid (fun (n : Nat) (w1 : World) => isSign_any (x.extract 0 n) w1)
  have hxe : ∀ n, n ≤ s.size - at_ → x.extract 0 n = s.extract at_ (at_ + n) := fun n hn => by
    apply ByteArray.ext; apply Array.ext'
    rw [Lib.extract_data, hx, Lib.extract_data, Lib.extract_data, Nat.sub_zero, List.drop_zero, List.take_take, Nat.add_sub_cancel_left]
    congr 1; omega
  obtain ⟨m0, hm0⟩ : ∃ m, m = min 3 x.size := ⟨_, rfl⟩
  rw [← hm0] at hmin
  have hm0' : m0 ≤ 3 ∧ m0 ≤ s.size - at_ ∧ (m0 = 3 ∨ m0 = s.size - at_) := by omega
  have hmx : m0 ≤ x.size := by omega
  have Hxs := Lib.hid hxs
  clear hxs
  have Hx := Lib.hid hx
  go_enter Tryd.func73, Tryd.ntmps73
  go_wp2_with fail
  go_quiet (fail)
  rw [← hx]
  clear hx
  have HXq := Lib.hid (HX.out.below (below_drewN (Below.refl _ _) nq))
  have HBq : Hid (Below b w (w.drewN nq)) := Lib.hid (below_drewN (Below.refl _ _) nq)
  generalize w.drewN nq = w0 at *
  have Hxe := Lib.hid hxe
  have Hm0 := Lib.hid hm0'
  clear hxe c0 c1 hm0 hm0'
  go_wp2_with fail
  go_loopg [4] m0 (fun g nv wr => ∃ n : Nat, n = g ∧ n ≤ m0 ∧ nv = .int .i64 n ∧ Hid (∀ k, n < k → k ≤ 3 → ¬ sgB s at_ k) ∧ wr = w0)
  case atStart => exact ⟨m0, rfl, Nat.le_refl _, rfl, Lib.hid (fun k h1 h2 hs => by have := hs.1; have := Hm0.out; omega), rfl⟩
  case round =>
    obtain ⟨n, rfl, hnm, rfl, hno, rfl⟩ := hrel
    have hn3 : n ≤ 3 ∧ n ≤ s.size - at_ := by have := Hm0.out; omega
    have HXq := Lib.hid HXq.out
    by_cases h0 : n = 0
    · have hs0 : signN s at_ = 0 := by
        rcases signN_eq s at_ with ⟨a, _⟩ | ⟨_, a, _⟩ | ⟨_, _, a, _⟩ | ⟨_, _, _, e⟩
        · exact absurd a (hno.out 3 (by omega) (by omega))
        · exact absurd a (hno.out 2 (by omega) (by omega))
        · exact absurd a (hno.out 1 (by omega) (by omega))
        · exact e
      have Hs0 := Lib.hid hs0
      subst h0
      have c1' := HXq.out.tx.c1
      clear hs0 hmin hmx
      go_wp2_with fail
      go_ret
      exact .inl ⟨at_, HTh0.out Hs0.out, rfl, HXq.out, HBq.out⟩
    · have hn0 : (0 : Int) < (n : Int) := by omega
      have hnx : n ≤ x.size := by omega
      have hnI : (n : Int) ≤ (x.size : Int) := by omega
      have HIn := Lib.hid (fun w1 => HI.out n w1)
      rw [Hxe.out n (by omega)] at HIn
      have hsgn : signs.contains (s.extract at_ (at_ + n)).data.toList = true → signN s at_ = n := fun hc => by
        have hs : sgB s at_ n := ⟨by omega, hc⟩
        rcases signN_eq s at_ with ⟨a, e⟩ | ⟨a3, a, e⟩ | ⟨a3, a2, a, e⟩ | ⟨a3, a2, a1, e⟩
        · by_cases h : n = 3
          · omega
          · exact absurd a (hno.out 3 (by omega) (by omega))
        · by_cases h : n = 2
          · omega
          · by_cases h3 : n = 3
            · rw [h3] at hs; exact absurd hs a3
            · exact absurd a (hno.out 2 (by omega) (by omega))
        · by_cases h : n = 1
          · omega
          · by_cases h3 : n = 3
            · rw [h3] at hs; exact absurd hs a3
            · have h4 : n = 2 := by omega
              rw [h4] at hs; exact absurd hs a2
        · rcases (by omega : n = 1 ∨ n = 2 ∨ n = 3) with h | h | h <;> rw [h] at hs
          · exact absurd hs a1
          · exact absurd hs a2
          · exact absurd hs a3
      have Hsgn := Lib.hid hsgn
      have Hcc := Lib.hid (show ¬ signs.contains (s.extract at_ (at_ + n)).data.toList = true → ¬ sgB s at_ n from fun h1 h2 => h1 h2.2)
      have Hxn := Lib.hid (Hxe.out n (by omega))
      clear hsgn
      cases hc : signs.contains (s.extract at_ (at_ + n)).data.toList with
      | true =>
        have Hs := Lib.hid (Hsgn.out hc)
        rw [hc] at HIn
        clear hc
        have ecast : ((at_ + n : Nat) : Int) = (at_ : Int) + (n : Int) := by omega
        have HT := Lib.hid (fun w1 (h1 : Lx b s at_ T M w1) => take_any b s at_ 5 (at_ + n) T M w1 h1 (by omega) (by omega) hs hT)
        rw [ecast] at HT
        have Ht := Lib.hid (HThn.out n h0 Hs.out)
        clear ecast
        have c1' := HXq.out.tx.c1
        clear hmin h0
        go_wp2_with fail
        rw [Hxn.out]
        refine (HIn.out _).mono ?_
        rintro r w1 ⟨rfl, rfl⟩
        go_wp2_with fail
        refine (HT.out _ HXq.out).mono ?_
        rintro r w1 ⟨rfl, hL, hB⟩
        have HL := Lib.hid hL
        have HB := Lib.hid (HBq.out.trans hB)
        clear hL hB
        go_wp2_with fail
        go_ret
        refine .inr ?_
        rw [Ht.out]
        exact ⟨rfl, rfl, HL.out, HB.out⟩
      | false =>
        have Hno2 := Lib.hid (Hcc.out (by rw [hc]; decide))
        rw [hc] at HIn
        clear hc
        clear hmin
        go_wp2_with fail
        rw [Hxn.out]
        refine (HIn.out _).mono ?_
        rintro r w1 ⟨rfl, rfl⟩
        go_wp2_with fail
        go_roundg (n - 1)
        case measure => omega
        case rel => exact ⟨n - 1, rfl, by omega, by go_num, Lib.hid (fun k h1 h2 => by
          by_cases h : k = n
          · rw [h]; exact Hno2.out
          · exact hno.out k (by omega) h2), rfl⟩

end Go.Proofs.YtejogobhnbjpdaaDoor
