/- Walks: how far a tag goes; Tag of both; what a reader holds. -/
import Derived.Test.YtpibehfmbmincaaGreatDoorWb
namespace Go.Proofs.YtpibehfmbmincaaGreatDoor
set_option linter.unusedVariables false
open Go.ChangeShapes Go.WideShapes Go.ChangeAt Go.RowKit

def endN (l : List UInt8) : Nat := (l.takeWhile tagC).length
theorem endN_le (l : List UInt8) : endN l ≤ l.length := by
  unfold endN
  induction l with
  | nil => simp
  | cons a r ih => rw [List.takeWhile_cons]; split <;> simp <;> omega
theorem endN_drop (l : List UInt8) (i : Nat) (h : ∀ j (hj : j < l.length), j < i → tagC l[j] = true) (hi : i ≤ l.length) : endN l = i + endN (l.drop i) := by
  induction i generalizing l with
  | zero => simp
  | succ i ih =>
    cases l with
    | nil => simp at hi
    | cons a r =>
      have h0 := h 0 (by simp) (by omega)
      simp only [List.getElem_cons_zero] at h0
      have := ih r (fun j hj hji => by have := h (j + 1) (by simp; omega) (by omega); simpa using this) (by simpa using hi)
      unfold endN at *
      rw [List.takeWhile_cons, if_pos h0, List.length_cons, List.drop_succ_cons, this]
      omega
theorem endN_stop (s : ByteArray) (i : Nat) (hi : i < s.size) (h : ∀ j (hj : j < s.size), j < i → tagC s[j] = true) (hs : tagC s[i] = false) : endN s.data.toList = i := by
  have hl : i < s.data.toList.length := by rw [ba_len]; exact hi
  rw [endN_drop s.data.toList i (fun j hj hji => h j (by rw [ba_len] at hj; exact hj) hji) (by omega)]
  rw [drop_cons s i hi]
  unfold endN
  rw [List.takeWhile_cons, if_neg (by rw [hs]; decide)]; simp
theorem endN_all (s : ByteArray) (h : ∀ j (hj : j < s.size), tagC s[j] = true) : endN s.data.toList = s.size := by
  rw [endN_drop s.data.toList s.size (fun j hj hji => h j hji) (by rw [ba_len]; omega)]
  rw [List.drop_eq_nil_of_le (by rw [ba_len]; omega)]
  simp [endN]

set_option maxHeartbeats 400000 in
theorem tagEnd_any (s : ByteArray) (w : World) (hs : s.size ≤ 140737488351232) : Calls Tryz.prog 64 #[.string s] w fun e w' => e = .returned (.int .i64 (endN s.data.toList : Nat)) ∧ w = w' := by
  go_enter Tryz.func64, Tryz.ntmps64
  go_wp2_with fail
  go_loopg [3, 6] s.size (fun g _ iv wr => ∃ i : Nat, i + g = s.size ∧ iv = .int .i64 i ∧ (∀ j (h : j < s.size), j < i → tagC s[j] = true) ∧ w = wr)
  case atStart => exact ⟨0, by omega, rfl, fun j h hj => by omega, rfl⟩
  case round =>
    obtain ⟨i, hig, rfl, hno, rfl⟩ := hrel
    have Hno := Lib.hid hno
    clear hno
    by_cases hlt : i < s.size
    · have hltI : (i : Int) < (s.size : Int) := by omega
      have HC := Lib.hid (fun w1 => inTag_any (s[i]'hlt) w1)
      cases hc : tagC (s[i]'hlt) with
      | false =>
        rw [hc] at HC
        have hp := Lib.hid (endN_stop s i hlt (fun j h hj => Hno.out j h hj) hc)
        clear hc
        go_wp2_with fail
        refine (HC.out _).mono ?_
        rintro e w1 ⟨rfl, rfl⟩
        go_wp2_with fail
        go_ret
        exact ⟨by rw [hp.out]; rfl, rfl⟩
      | true =>
        rw [hc] at HC
        have hn : ∀ j (h : j < s.size), j < i + 1 → tagC s[j] = true := by
          intro j h hj
          by_cases e : j = i
          · subst e; exact hc
          · exact Hno.out j h (by omega)
        have Hn := Lib.hid hn
        clear hc hn
        go_wp2_with fail
        refine (HC.out _).mono ?_
        rintro e w1 ⟨rfl, rfl⟩
        go_wp2_with fail
        go_roundg (gk - 1)
        case measure => omega
        case rel => exact ⟨i + 1, by omega, by go_num, Hn.out, rfl⟩
    · have hi : i = s.size := by omega
      subst hi
      have hp := Lib.hid (endN_all s (fun j h => Hno.out j h h))
      go_wp2_with fail
      go_ret
      exact ⟨by rw [hp.out]; rfl, rfl⟩

theorem all_iff (l : List UInt8) : l.all tagC = (endN l == l.length) := by
  unfold endN
  induction l with
  | nil => rfl
  | cons a r ih =>
    rw [List.all_cons, List.takeWhile_cons]
    cases h : tagC a with
    | true => rw [if_pos rfl, ih, Bool.true_and, List.length_cons, List.length_cons, Bool.eq_iff_iff]; simp
    | false => rw [if_neg (by decide)]; simp
theorem tagB_some {s : ByteArray} (h : some1 s = true) : tagB s = (((endN s.data.toList : Nat) : Int) == (s.size : Int)) := by
  have hne : s.data.toList.isEmpty = false := by
    cases hl : s.data.toList with
    | nil =>
      have h0 : s.size = 0 := by rw [← ba_len, hl]; rfl
      unfold some1 at h; rw [h0] at h; cases h
    | cons a r => rfl
  unfold tagB
  rw [hne, all_iff, ba_len, Bool.eq_iff_iff]
  simp only [Bool.not_false, Bool.true_and, beq_iff_eq]
  omega
theorem tagB_none {s : ByteArray} (h : some1 s = false) : tagB s = false := by
  rw [empty_of s h]; rfl
set_option maxHeartbeats 400000 in
theorem tag_any (s : ByteArray) (w : World) (hs : s.size ≤ 140737488351232) : Calls Tryz.prog 48 #[.string s] w fun e w' => e = .returned (.bool (tagB s)) ∧ w = w' := by
  cases hs1 : some1 s with
  | false =>
    obtain ⟨s1, s2⟩ := none_facts hs1
    have Hd := Lib.hid (tagB_none hs1)
    clear hs1
    go_enter Tryz.func48, Tryz.ntmps48
    go_wp2_with fail
    go_ret
    exact ⟨by rw [Hd.out]; rfl, rfl⟩
  | true =>
    obtain ⟨s1, s2⟩ := some_facts hs1
    have Hd := Lib.hid (tagB_some hs1)
    have HE := Lib.hid (fun w1 => tagEnd_any s w1 hs)
    clear hs1
    generalize endN s.data.toList = n at *
    go_enter Tryz.func48, Tryz.ntmps48
    go_wp2_with fail
    refine (HE.out _).mono ?_
    rintro e w1 ⟨rfl, rfl⟩
    go_wp2_with fail
    go_ret
    exact ⟨by rw [Hd.out]; rfl, rfl⟩
theorem own_set {w : World} {base b i : Nat} {v u : Value} {n : Nat} {xs : List Value} (h : w.ownsRow base 9 1 v n xs) (hb : v.ownBlock ≠ some b) : (w.setCell ⟨b, i, none⟩ u).ownsRow base 9 1 v n xs := by
  refine ⟨h.1, ?_⟩
  rcases h.2 with h | ⟨g, cap, cur, hv, hg, hh, rest⟩
  · exact .inl h
  · refine .inr ⟨g, cap, cur, hv, hg, ?_, rest⟩
    rw [Below.heap_setCell w _ u g (by show g ≠ b; rintro rfl; rw [hv] at hb; exact hb rfl)]
    exact hh
/-- What a reader at b holds. -/
def Rd (base b : Nat) (s : St) (w : World) : Prop :=
  base ≤ b ∧ ∃ pv, w.heap[b]? = some (.cells #[.string (mkB s.rest), pv, .int .i64 (s.deep : Nat)] 88 (0, 0)) ∧ w.ownsRow base 9 1 pv s.parts.length (s.parts.map Value.string) ∧ pv.ownBlock ≠ some b
theorem Rd.rest {base b : Nat} {s : St} {w : World} (h : Rd base b s w) (r : List UInt8) : Rd base b { s with rest := r } (w.setCell ⟨b, 0, none⟩ (.string (mkB r))) := by
  obtain ⟨h0, pv, h1, h2, h3⟩ := h
  exact ⟨h0, pv, block_set h1, own_set h2 h3, h3⟩
theorem Rd.deep {base b : Nat} {s : St} {w : World} (h : Rd base b s w) (d : Nat) : Rd base b { s with deep := d } (w.setCell ⟨b, 2, none⟩ (.int .i64 (d : Nat))) := by
  obtain ⟨h0, pv, h1, h2, h3⟩ := h
  exact ⟨h0, pv, block_set h1, own_set h2 h3, h3⟩
theorem Rd.drewN {base b : Nat} {s : St} {w : World} (h : Rd base b s w) (n : Nat) : Rd base b s (w.drewN n) := h
end Go.Proofs.YtpibehfmbmincaaGreatDoor
