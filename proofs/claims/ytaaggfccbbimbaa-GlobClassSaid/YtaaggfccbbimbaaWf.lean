/- Walks: whether a sign is one of a piece's. -/
import Derived.Test.YtaaggfccbbimbaaWe
namespace Go.Proofs.Ytaaggfccbbimbaa
set_option linter.unusedVariables false
set_option linter.unusedSimpArgs false
open Go.ChangeShapes Go.WideShapes Go.ChangeAt Go.RowKit

/-- Ranges in memory, below a bound. -/
def Spans (lim : Nat) (w : World) (sv : Value) (l : List Sp) : Prop :=
  ∃ p cap, sv = .slice p l.length cap ∧ l.length ≤ cap ∧ cap ≤ 9223372036854775807 ∧
    (0 < l.length → ∃ g, p = some ⟨g, 0, none⟩ ∧ g < lim ∧ ∀ i, i < l.length → w.cell? ⟨g, 2 * i, none⟩ = some (.int .u8 (l.getD i (0, 0)).1.toNat) ∧ w.cell? ⟨g, 2 * i + 1, none⟩ = some (.int .u8 (l.getD i (0, 0)).2.toNat))
theorem flatS_get (l : List Sp) : ∀ i, i < l.length → (flatS l)[2 * i]? = some (.int .u8 (l.getD i (0, 0)).1.toNat) ∧ (flatS l)[2 * i + 1]? = some (.int .u8 (l.getD i (0, 0)).2.toNat) := by
  induction l with
  | nil => intro i h; simp at h
  | cons x r ih =>
    intro i h
    have e : flatS (x :: r) = .int .u8 x.1.toNat :: .int .u8 x.2.toNat :: flatS r := rfl
    rw [e]
    cases i with
    | zero => exact ⟨rfl, rfl⟩
    | succ i =>
      have := ih i (by simp at h; omega)
      rw [show 2 * (i + 1) = 2 * i + 1 + 1 by omega]
      simpa using this
theorem Spans.of {w : World} {base : Nat} {sv : Value} {l : List Sp} (h : w.ownsRow base 50 2 sv l.length (flatS l)) : Spans w.heap.size w sv l := by
  obtain ⟨p, cap, rfl, h1, h2, h3⟩ := own_shape h
  refine ⟨p, cap, rfl, h1, h2, fun h0 => ?_⟩
  obtain ⟨g, rfl, hg⟩ := h3 h0
  refine ⟨g, rfl, (h.lt g rfl).2, fun i hi => ?_⟩
  have hc := h.cells (g := g) rfl
  have ha : ∀ j, (⟨g, 0, none⟩ : Addr).add j = ⟨g, j, none⟩ := fun j => by unfold Addr.add; split <;> simp_all
  have h4 := flatS_get l i hi
  have c1 := hc _ _ h4.1
  have c2 := hc _ _ h4.2
  rw [ha] at c1 c2
  exact ⟨c1, c2⟩
theorem Spans.below {lim : Nat} {w w' : World} {sv : Value} {l : List Sp} (h : Spans lim w sv l) (hB : Below lim w w') : Spans lim w' sv l := by
  obtain ⟨p, cap, e, h1, h2, h3⟩ := h
  refine ⟨p, cap, e, h1, h2, fun h0 => ?_⟩
  obtain ⟨g, e2, hg, hc⟩ := h3 h0
  refine ⟨g, e2, hg, fun i hi => ?_⟩
  rw [hB.cell (p := ⟨g, 2 * i, none⟩) hg, hB.cell (p := ⟨g, 2 * i + 1, none⟩) hg]
  exact hc i hi
def HasEnd (x : Bool) (w : World) (e : Ending) (w' : World) : Prop := e = .returned (.bool x) ∧ Below w.heap.size w w'
theorem u8_lit (x : UInt8) (n : Nat) (h : n < 256) : ((x.toNat : Int) == (n : Int)) = decide (x = UInt8.ofNat n) := by
  by_cases hx : x = UInt8.ofNat n
  · rw [decide_eq_true hx, hx, UInt8.toNat_ofNat', Nat.mod_eq_of_lt (by omega)]; simp
  · rw [decide_eq_false hx]; exact u8_ne h hx
theorem ret_b {x y : Bool} (h : x = y) : Ending.returned (.bool x) = .returned (.bool y) := by rw [h]
set_option maxHeartbeats 1000000 in
theorem has_slash (pc : Pc) (sv : Value) (lim : Nat) (w : World) (h : Spans lim w sv pc.spans) (hlim : lim ≤ w.heap.size) : Calls Try.prog 18 #[.agg #[.bool pc.many, .bool pc.neg, sv], .int .u8 47] w (HasEnd (hasP pc 47) w) := by
  obtain ⟨many, neg, l⟩ := pc
  have hp : hasP ⟨many, neg, l⟩ 47 = (!neg && decide (l = [(47, 47)])) := by unfold hasP; rw [if_pos rfl]
  rw [hp]
  simp only at h
  obtain ⟨p, cap, rfl, h1, h2, h3⟩ := h
  cases neg with
  | true =>
    clear h3 hp
    go_enter Try.func18, Try.ntmps18
    go_wp2_with fail
    go_ret
    exact ⟨rfl, (Below.refl _ _).alloc (Nat.le_refl _) _⟩
  | false =>
    by_cases hl : l.length = 1
    · obtain ⟨⟨a, b⟩, rfl⟩ := List.length_eq_one_iff.1 hl
      obtain ⟨g, rfl, hg, hc⟩ := h3 (by simp)
      have hc0 := hc 0 (by simp)
      simp at hc0
      obtain ⟨c0, c1⟩ := hc0
      have hgw : g < w.heap.size := by omega
      clear h3 hc hp
      go_enter Try.func18, Try.ntmps18
      go_wp2_with fail
      all_goals
        go_ret
        refine ⟨ret_b ?_, (Below.refl _ _).alloc (Nat.le_refl _) _⟩
        simp [← UInt8.toNat_inj]
        omega
    · have hne : l ≠ [(47, 47)] := by rintro rfl; exact hl rfl
      rw [decide_eq_false hne]
      have hl2 : ((l.length : Int) == 1) = false := by rw [beq_eq_false_iff_ne]; omega
      clear h3 hp hne
      go_enter Try.func18, Try.ntmps18
      go_wp2_with fail
      go_ret
      exact ⟨rfl, (Below.refl _ _).alloc (Nat.le_refl _) _⟩
set_option maxHeartbeats 1000000 in
theorem has_other (pc : Pc) (b : UInt8) (sv : Value) (lim : Nat) (w : World) (h : Spans lim w sv pc.spans) (hlim : lim ≤ w.heap.size) (hb : b ≠ 47) : Calls Try.prog 18 #[.agg #[.bool pc.many, .bool pc.neg, sv], .int .u8 b.toNat] w (HasEnd (hasP pc b) w) := by
  obtain ⟨many, neg, l⟩ := pc
  have hp : hasP ⟨many, neg, l⟩ b = if l.any (inSp b) then !neg else neg := by unfold hasP; rw [if_neg hb]
  rw [hp]
  simp only at h
  obtain ⟨p, cap, rfl, h1, h2, h3⟩ := h
  have H3 := Lib.hid h3
  obtain ⟨R, hR⟩ : ∃ R, R = if l.any (inSp b) then !neg else neg := ⟨_, rfl⟩
  rw [← hR]
  have HR := Lib.hid hR
  have hb2 : ((b.toNat : Int) == (47 : Int)) = false := u8_ne (n := 47) (by omega) hb
  clear h3 hp hR hb
  obtain ⟨len, hlen⟩ : ∃ len, len = l.length := ⟨_, rfl⟩
  rw [← hlen] at h1 H3 ⊢
  have Hlen := Lib.hid hlen
  clear hlen
  go_enter Try.func18, Try.ntmps18
  go_wp2_with fail
  go_loopw [29] (fun i wr => ∃ k : Nat, k ≤ len ∧ i = .int .i64 k ∧ (l.take k).any (inSp b) = false ∧ Below (w.heap.size + 1) (w.alloc (.cells #[.bool many, .bool neg, .slice p len cap] 41)) wr) (fun i _ => len - (intOf i).toNat)
  case atStart => exact ⟨0, Nat.zero_le _, rfl, by simp, Below.refl _ _⟩
  case round =>
    obtain ⟨k, hk, rfl, hany, hB⟩ := hrel
    have hbs := hB.size
    have hb0 : wr.heap[w.heap.size]? = some (.cells #[.bool many, .bool neg, .slice p len cap] 41 (0, 0)) := by rw [hB.block _ (by omega)]; exact heap_alloc_new _ _
    obtain ⟨⟨c0, c1, c2⟩, _⟩ := three_cells hb0
    have hbl := lt_of_block hb0
    have Hany := Lib.hid hany
    clear hany hb0
    by_cases hlt : k < len
    · obtain ⟨g, rfl, hg, hc⟩ := H3.out (by omega)
      obtain ⟨d0, d1⟩ := hc k hlt
      have hgw : g < w.heap.size := by omega
      have hold : ∀ j, wr.cell? ⟨g, j, none⟩ = w.cell? ⟨g, j, none⟩ := fun j => by
        rw [hB.cell (p := ⟨g, j, none⟩) (by simp only; omega)]
        exact ((Below.refl w.heap.size w).alloc (Nat.le_refl _) _).cell (p := ⟨g, j, none⟩) hgw
      have e0 := (hold _).trans d0
      have e1 := (hold _).trans d1
      rw [Nat.mul_comm 2 k] at e0 e1
      have hgr : g < wr.heap.size := by omega
      clear hold d0 d1 hc
      obtain ⟨x, hx⟩ : ∃ x, x = l.getD k (0, 0) := ⟨_, rfl⟩
      rw [← hx] at e0 e1
      have Hx := Lib.hid hx
      clear hx
      have hin : inSp b x = (decide (x.1.toNat ≤ b.toNat) && decide (b.toNat ≤ x.2.toNat)) := by
        unfold inSp; rw [Bool.eq_iff_iff]; simp [UInt8.le_iff_toNat_le]
      have htk : l.take (k + 1) = l.take k ++ [x] := by
        have hkl : k < l.length := by have := Hlen.out; omega
        rw [List.take_succ_eq_append_getElem hkl, Hx.out]; simp [List.getD, hkl]
      have hanyl : inSp b x = true → l.any (inSp b) = true := fun h => by
        have hkl : k < l.length := by have := Hlen.out; omega
        rw [List.any_eq_true]; exact ⟨x, by rw [Hx.out]; simp [List.getD, hkl], h⟩
      have Hin := Lib.hid hin
      have Htk := Lib.hid htk
      have Hanyl := Lib.hid hanyl
      clear hin htk hanyl
      cases hd1 : decide (x.1.toNat ≤ b.toNat) <;> cases hd2 : decide (b.toNat ≤ x.2.toNat)
      case true.true =>
        have hi : inSp b x = true := by rw [Hin.out, hd1, hd2]; rfl
        have hR := HR.out
        rw [if_pos (Hanyl.out hi)] at hR
        clear hi
        have HR2 := Lib.hid hR
        clear hR
        go_wp2_with fail
        go_ret
        exact ⟨by rw [HR2.out]; rfl, (((Below.refl _ _).alloc (Nat.le_refl _) _).trans (hB.mono (by omega))).alloc (by omega) _⟩
      all_goals
        have hi : inSp b x = false := by rw [Hin.out, hd1, hd2]; rfl
        have Hi := Lib.hid (show (l.take (k + 1)).any (inSp b) = false by rw [Htk.out, List.any_append, Hany.out]; simp [hi])
        clear hi
        go_wp2_with fail
        all_goals exact ⟨⟨k + 1, by omega, by go_num, Hi.out, hB.alloc (by omega) _⟩, by simp [intOf]; omega⟩
    · obtain rfl : k = len := by omega
      have hR := HR.out
      have ha : l.any (inSp b) = false := by have := Hany.out; rwa [List.take_of_length_le (by have := Hlen.out; omega)] at this
      rw [ha] at hR
      have HR2 := Lib.hid hR
      clear hR ha
      go_wp2_with fail
      go_ret
      exact ⟨by rw [HR2.out]; rfl, (((Below.refl _ _).alloc (Nat.le_refl _) _).trans (hB.mono (by omega)))⟩
end Go.Proofs.Ytaaggfccbbimbaa
