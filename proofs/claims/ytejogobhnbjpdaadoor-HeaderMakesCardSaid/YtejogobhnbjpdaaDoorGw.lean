/- The theory of tokens: what stands at a place stands at another one with the same bytes. -/
import Derived.Test.YtejogobhnbjpdaaDoorGv
import Derived.Test.YtejogobhnbjpdaaDoorWe
namespace Go.Proofs.YtejogobhnbjpdaaDoor
set_option linter.unusedVariables false
set_option linter.unusedSimpArgs false

def Th.en (q : Nat) : Th → Nat | .bad _ => q | .lf => q + 1 | .blank => q + 1 | .note e => e | .tok _ e => e
def Th.sh (q q' : Nat) : Th → Th | .bad f => .bad (q' + (f - q)) | .lf => .lf | .blank => .blank | .note e => .note (q' + (e - q)) | .tok k e => .tok k (q' + (e - q))
def Th.ok : Th → Bool | .bad _ => false | _ => true
def Th.isTok : Th → Bool | .tok _ _ => true | _ => false
def digTest (s : ByteArray) (q : Nat) (r : Int) : Bool := digR r || (decide (r = 46) && digR (rn s (q + 1)).1)
theorem thing_eq (s : ByteArray) (q : Nat) : thing s q = if (runeAt s q).1 = 10 then .lf
  else if blkR (runeAt s q).1 = true then .blank
  else if pre s q [47, 47] = true then .ofN (lineR s q)
  else if pre s q [47, 42] = true then .ofN (closedR s [42, 47] q (q + 2))
  else if letR (runeAt s q).1 = true then .tok 1 (identE s q)
  else if digTest s q (runeAt s q).1 = true then .tok 2 (numE s (hexP s q) (q + 1))
  else if (runeAt s q).1 = 39 then .of 3 (quotR s 39 q (q + 1) false)
  else if (runeAt s q).1 = 34 then .of 4 (quotR s 34 q (q + 1) false)
  else if (runeAt s q).1 = 96 then .of 4 (closedR s [96] q (q + 1))
  else if (runeAt s q).1 = 59 then .tok 6 (q + 1)
  else if signN s q = 0 then .bad q else .tok 5 (q + signN s q) := rfl

theorem sg_rune {s : ByteArray} {q k : Nat} (hk : 0 < k) (h : sgB s q k) : runeAt s q = ((byt s q : Int), 1) := by
  have h1 := h.1
  have h2 := sg_byte h hk
  rw [Nat.add_zero] at h2
  exact rune_low (by omega) rfl (by omega) (by omega)
theorem neg_bad {s : ByteArray} {q : Nat} (hq : q < s.size) (h : (runeAt s q).1 < 0) : thing s q = .bad q := by
  have hb := (runeAt_bounds s q).1
  have e : (runeAt s q).1 = -1 := by omega
  have hp : ∀ b : UInt8, pre s q [47, b] = true → False := fun b hp => by
    have h2 := (pre2 s q 47 b (by omega)).1 hp
    rw [rune_low hq h2.2.1 (by decide) (by decide)] at h
    exact absurd h (by decide)
  have hs : signN s q = 0 := by
    have hno : ∀ k, 0 < k → sgB s q k → False := fun k hk hs => by
      rw [sg_rune hk hs] at h
      have h : ((byt s q : Nat) : Int) < 0 := h
      omega
    rcases signN_eq s q with h1 | h1 | h1 | h1
    · exact absurd h1.1 (hno 3 (by omega))
    · exact absurd h1.2.1 (hno 2 (by omega))
    · exact absurd h1.2.2.1 (hno 1 (by omega))
    · exact h1.2.2.2
  rw [thing_eq, e, if_neg (by decide), if_neg (by decide), if_neg (fun x => hp _ x), if_neg (fun x => hp _ x), if_neg (by decide), if_neg (by unfold digTest; simp [digR]), if_neg (by decide), if_neg (by decide), if_neg (by decide), if_neg (by decide), if_pos hs]
theorem ok_pos {s : ByteArray} {q : Nat} (hq : q < s.size) (h : (thing s q).ok = true) : 0 ≤ (runeAt s q).1 := by
  rcases Int.lt_or_le (runeAt s q).1 0 with h1 | h1
  · rw [neg_bad hq h1] at h; cases h
  · exact h1
theorem digR_rn (s : ByteArray) (i : Nat) : digR (rn s i).1 = true ↔ i < s.size ∧ 48 ≤ byt s i ∧ byt s i ≤ 57 := by
  by_cases hi : i < s.size
  · rw [rn_in hi]
    constructor
    · intro h
      have h1 := of_decide_eq_true h
      have h2 := (rune_byte hi (runeAt s i).1.toNat (by omega) (by omega)).1 (by omega)
      omega
    · rintro ⟨_, h1, h2⟩
      rw [rune_low hi rfl (by omega) (by omega)]
      exact decide_eq_true (by constructor <;> (show _ ≤ _; simp only; omega))
  · rw [rn_out hi]
    exact ⟨fun h => absurd h (by decide), fun h => absurd h.1 hi⟩
theorem digR_byt {s : ByteArray} {q : Nat} (hq : q < s.size) (h : digR (runeAt s q).1 = true) : 48 ≤ byt s q ∧ byt s q ≤ 57 ∧ (runeAt s q).2 = 1 := by
  have h1 := (digR_rn s q).1 (by rw [rn_in hq]; exact h)
  rw [rune_low hq rfl (by omega) (by omega)]
  omega
theorem blk_byt {s : ByteArray} {q : Nat} (hq : q < s.size) (h : blkR (runeAt s q).1 = true) : (byt s q = 32 ∨ byt s q = 9 ∨ byt s q = 13) ∧ (runeAt s q).2 = 1 := by
  have h1 := of_decide_eq_true h
  rcases h1 with h1 | h1 | h1
  · exact ⟨.inl ((rune_byte hq 32 (by omega) (by omega)).1 h1), rune_one hq (c := 32) (by omega) (by omega) h1⟩
  · exact ⟨.inr (.inl ((rune_byte hq 9 (by omega) (by omega)).1 h1)), rune_one hq (c := 9) (by omega) (by omega) h1⟩
  · exact ⟨.inr (.inr ((rune_byte hq 13 (by omega) (by omega)).1 h1)), rune_one hq (c := 13) (by omega) (by omega) h1⟩
theorem inNum_dig {p b : Nat} {hex : Bool} (h : 48 ≤ b ∧ b ≤ 57) : inNum p b hex = true := by
  unfold inNum
  rw [if_neg (by omega), if_neg (by omega)]
  have : digR (b : Int) = true := decide_eq_true (by omega)
  rw [this, decide_eq_true (by omega)]; simp
theorem num_next {s : ByteArray} {hex : Bool} {q : Nat} (h : q < s.size) (hn : inNum (byt s (q - 1)) (byt s q) hex = true) : q + 1 ≤ numE s hex q := by
  rw [numE, if_pos h, if_pos hn]
  exact (numE_ge s hex _ _ (Nat.le_refl _)).1

/-- Where what stands at a place ends; how far the text goes. -/
theorem thing_ends {s : ByteArray} {q : Nat} (hq : q < s.size) : (∀ f, thing s q = .bad f → q ≤ f ∧ f < s.size) ∧ ((thing s q).ok = true → q < (thing s q).en q ∧ (thing s q).en q ≤ s.size ∧ q + (runeAt s q).2 ≤ (thing s q).en q) := by
  have hr := runeAt_range s q hq
  have one : ∀ c : Nat, 0 < c → c < 128 → (runeAt s q).1 = c → (runeAt s q).2 = 1 := fun c h1 h2 h3 => rune_one hq h1 h2 h3
  have sl : ∀ b : UInt8, pre s q [47, b] = true → (runeAt s q).2 = 1 := fun b hp => by
    rw [pre_low hq hp (by decide) (by decide)]
  have hc := thing_eq s q
  by_cases h1 : (runeAt s q).1 = 10
  · rw [if_pos h1] at hc; rw [hc]
    exact ⟨fun f h => by (cases h), fun _ => ⟨Nat.lt_succ_self _, hq, by rw [one 10 (by omega) (by omega) h1]; exact Nat.le_refl _⟩⟩
  rw [if_neg h1] at hc
  by_cases h2 : blkR (runeAt s q).1 = true
  · rw [if_pos h2] at hc; rw [hc]
    exact ⟨fun f h => by (cases h), fun _ => ⟨Nat.lt_succ_self _, hq, by rw [(blk_byt hq h2).2]; exact Nat.le_refl _⟩⟩
  rw [if_neg h2] at hc
  by_cases h3 : pre s q [47, 47] = true
  · rw [if_pos h3] at hc; rw [hc]
    have hg := line_ge s _ q (Nat.le_refl _) (by omega)
    have h31 := sl _ h3
    have h32 := (pre2 s q _ _ (by omega)).1 h3
    have h0 : ¬ (runeAt s q).1 < 0 := by rw [pre_low hq h3 (by decide) (by decide)]; decide
    cases hl : lineR s q with
    | inl f => exact ⟨fun g h => by (injection h with h; have := hg.2 f hl; omega), fun h => by (cases h)⟩
    | inr e =>
      refine ⟨fun f h => by (cases h), fun _ => ?_⟩
      have := hg.1 e hl
      rw [lineR, dif_pos hq, if_neg h1, if_neg h0] at hl
      have h5 := (line_ge s _ _ (Nat.le_refl _) (by omega)).1 e hl
      simp only [Th.ofN, Th.en]
      omega
  rw [if_neg h3] at hc
  by_cases h4 : pre s q [47, 42] = true
  · rw [if_pos h4] at hc; rw [hc]
    have hg := closed_ge s [42, 47] q _ (q + 2) (Nat.le_refl _)
    have h31 := sl _ h4
    cases hl : closedR s [42, 47] q (q + 2) with
    | inl f => exact ⟨fun g h => by (injection h with h; have := hg.2 f hl; omega), fun h => by (cases h)⟩
    | inr e =>
      refine ⟨fun f h => by (cases h), fun _ => ?_⟩
      have := hg.1 e hl
      simp only [Th.ofN, Th.en]
      omega
  rw [if_neg h4] at hc
  by_cases h5 : letR (runeAt s q).1 = true
  · rw [if_pos h5] at hc; rw [hc]
    refine ⟨fun f h => by (cases h), fun _ => ?_⟩
    have e : identE s q = identE s (q + (runeAt s q).2) := by rw [identE, dif_pos hq, if_pos (by rw [h5]; rfl)]
    have h6 := identE_ge s _ (q + (runeAt s q).2) (Nat.le_refl _)
    show q < identE s q ∧ identE s q ≤ s.size ∧ _ ≤ identE s q
    rw [e]; omega
  rw [if_neg h5] at hc
  by_cases h6 : digTest s q (runeAt s q).1 = true
  · rw [if_pos h6] at hc; rw [hc]
    refine ⟨fun f h => by (cases h), fun _ => ?_⟩
    have h7 := numE_ge s (hexP s q) _ (q + 1) (Nat.le_refl _)
    have h8 : (runeAt s q).2 = 1 := by
      rcases Bool.or_eq_true_iff.1 h6 with h | h
      · exact (digR_byt hq h).2.2
      · exact one 46 (by omega) (by omega) (of_decide_eq_true (Bool.and_eq_true_iff.1 h).1)
    show q < numE s (hexP s q) (q + 1) ∧ numE s (hexP s q) (q + 1) ≤ s.size ∧ _ ≤ numE s (hexP s q) (q + 1)
    omega
  rw [if_neg h6] at hc
  by_cases h7 : (runeAt s q).1 = 39
  · rw [if_pos h7] at hc; rw [hc]
    have hg := quot_ge s 39 q _ (q + 1) false (Nat.le_refl _)
    have h31 := one 39 (by omega) (by omega) h7
    cases hl : quotR s 39 q (q + 1) false with
    | inl f => exact ⟨fun g h => by (injection h with h; have := hg.2 f hl; omega), fun h => by (cases h)⟩
    | inr e =>
      refine ⟨fun f h => by (cases h), fun _ => ?_⟩
      have := hg.1 e hl
      simp only [Th.of, Th.en]
      omega
  rw [if_neg h7] at hc
  by_cases h8 : (runeAt s q).1 = 34
  · rw [if_pos h8] at hc; rw [hc]
    have hg := quot_ge s 34 q _ (q + 1) false (Nat.le_refl _)
    have h31 := one 34 (by omega) (by omega) h8
    cases hl : quotR s 34 q (q + 1) false with
    | inl f => exact ⟨fun g h => by (injection h with h; have := hg.2 f hl; omega), fun h => by (cases h)⟩
    | inr e =>
      refine ⟨fun f h => by (cases h), fun _ => ?_⟩
      have := hg.1 e hl
      simp only [Th.of, Th.en]
      omega
  rw [if_neg h8] at hc
  by_cases h9 : (runeAt s q).1 = 96
  · rw [if_pos h9] at hc; rw [hc]
    have hg := closed_ge s [96] q _ (q + 1) (Nat.le_refl _)
    have h31 := one 96 (by omega) (by omega) h9
    cases hl : closedR s [96] q (q + 1) with
    | inl f => exact ⟨fun g h => by (injection h with h; have := hg.2 f hl; omega), fun h => by (cases h)⟩
    | inr e =>
      refine ⟨fun f h => by (cases h), fun _ => ?_⟩
      have := hg.1 e hl
      simp only [Th.of, Th.en]
      omega
  rw [if_neg h9] at hc
  by_cases h10 : (runeAt s q).1 = 59
  · rw [if_pos h10] at hc; rw [hc]
    exact ⟨fun f h => by (cases h), fun _ => ⟨Nat.lt_succ_self _, hq, by rw [one 59 (by omega) (by omega) h10]; exact Nat.le_refl _⟩⟩
  rw [if_neg h10] at hc
  by_cases h11 : signN s q = 0
  · rw [if_pos h11] at hc; rw [hc]
    exact ⟨fun f h => by (injection h with h; omega), fun h => by (cases h)⟩
  · rw [if_neg h11] at hc; rw [hc]
    refine ⟨fun f h => by (cases h), fun _ => ?_⟩
    show q < q + signN s q ∧ q + signN s q ≤ s.size ∧ _ ≤ q + signN s q
    rcases signN_eq s q with ⟨a, e⟩ | ⟨_, a, e⟩ | ⟨_, _, a, e⟩ | ⟨_, _, _, e⟩
    · have := a.1; have h2 := sg_rune (by omega) a; rw [e, h2]; simp only; omega
    · have := a.1; have h2 := sg_rune (by omega) a; rw [e, h2]; simp only; omega
    · have := a.1; have h2 := sg_rune (by omega) a; rw [e, h2]; simp only; omega
    · omega

theorem ident_stop (s : ByteArray) : ∀ (n q : Nat), s.size - q ≤ n → (letR (rn s (identE s q)).1 || digR (rn s (identE s q)).1) = false := by
  intro n
  have out : ∀ q, ¬ q < s.size → (letR (rn s q).1 || digR (rn s q).1) = false := fun q h => by rw [rn_out h]; decide
  induction n with
  | zero => intro q hn; rw [identE, dif_neg (by omega)]; exact out q (by omega)
  | succ n ih =>
    intro q hn
    by_cases h : q < s.size
    · by_cases hl : (letR (runeAt s q).1 || digR (runeAt s q).1) = true
      · have hr := runeAt_range s q h
        rw [identE, dif_pos h, if_pos hl]
        exact ih _ (by omega)
      · rw [identE, dif_pos h, if_neg hl, rn_in h]
        exact Bool.eq_false_iff.2 hl
    · rw [identE, dif_neg h]; exact out q h
theorem num_stop (s : ByteArray) (hex : Bool) : ∀ (n q : Nat), s.size - q ≤ n → numE s hex q < s.size → inNum (byt s (numE s hex q - 1)) (byt s (numE s hex q)) hex = false := by
  intro n
  induction n with
  | zero => intro q hn h; have := (numE_ge s hex _ q (Nat.le_refl _)).1; omega
  | succ n ih =>
    intro q hn h
    by_cases h1 : q < s.size
    · by_cases h2 : inNum (byt s (q - 1)) (byt s q) hex = true
      · have e : numE s hex q = numE s hex (q + 1) := by rw [numE, if_pos h1, if_pos h2]
        rw [e] at h ⊢
        exact ih _ (by omega) h
      · have e : numE s hex q = q := by rw [numE, if_pos h1, if_neg h2]
        rw [e]
        exact Bool.eq_false_iff.2 h2
    · have := (numE_ge s hex _ q (Nat.le_refl _)).1; omega
theorem inNum_blank (p : Nat) (hex : Bool) : inNum p 32 hex = false := by
  unfold inNum; rw [if_neg (by decide), if_neg (by decide)]; decide

/-- What stands behind: a blank, or what stands behind in the other text. -/
def Stop (s s' : ByteArray) (e e' : Nat) (tok : Bool) : Prop := (tok = true ∧ e' < s'.size ∧ byt s' e' = 32) ∨ (e < s.size ∧ e' < s'.size ∧ byt s' e' = byt s e ∧ rn s' e' = rn s e)

theorem pre2_st {s s' : ByteArray} {q q' e : Nat} {tok : Bool} (a b : UInt8) (hb : b.toNat ≠ 32) (he : q < e) (hne : pre s q [a, b] = true → q + 2 ≤ e) (ha : Ag s s' q q' (e - q)) (hs : Stop s s' e (q' + (e - q)) tok) : pre s' q' [a, b] = pre s q [a, b] := by
  have h1 := ha.1; have h2 := ha.2.1
  by_cases h : q + 2 ≤ e
  · exact pre_ag (ha.le (show ([a, b] : List UInt8).length ≤ e - q by simp only [List.length_cons, List.length_nil]; omega))
  · obtain rfl : e = q + 1 := by omega
    rw [Nat.add_sub_cancel_left] at hs ha
    have hn : pre s q [a, b] = false := Bool.eq_false_iff.2 (fun x => h (hne x))
    rw [hn]
    apply Bool.eq_false_iff.2
    intro hx
    have hx := (pre2 s' q' a b (by omega)).1 hx
    rcases hs with ⟨_, h3, h4⟩ | ⟨h3, h4, h5, _⟩
    · omega
    · rw [(pre2 s q a b (by omega)).2 ⟨by omega, by rw [← ha.at0 (by omega)]; exact hx.2.1, by rw [← h5]; exact hx.2.2⟩] at hn
      cases hn
theorem dig_st {s s' : ByteArray} {q q' e : Nat} {tok : Bool} (he : q < e) (hne : digR (rn s (q + 1)).1 = true → q + 2 ≤ e) (ha : Ag s s' q q' (e - q)) (hs : Stop s s' e (q' + (e - q)) tok) : digR (rn s' (q' + 1)).1 = digR (rn s (q + 1)).1 := by
  have h1 := ha.1; have h2 := ha.2.1
  by_cases h : q + 2 ≤ e
  · rw [Bool.eq_iff_iff, digR_rn, digR_rn, ha.at (i := 1) (by omega)]
    exact ⟨fun x => ⟨by omega, x.2⟩, fun x => ⟨by omega, x.2⟩⟩
  · obtain rfl : e = q + 1 := by omega
    rw [Nat.add_sub_cancel_left] at hs ha
    rcases hs with ⟨_, h3, h4⟩ | ⟨h3, h4, h5, h6⟩
    · have hn : digR (rn s (q + 1)).1 = false := Bool.eq_false_iff.2 (fun x => h (hne x))
      rw [hn]
      apply Bool.eq_false_iff.2
      intro hx
      have := (digR_rn s' (q' + 1)).1 hx
      omega
    · rw [h6]
theorem num_st {s s' : ByteArray} {q q' : Nat} {tok : Bool} (hq : q < s.size) (ha : Ag s s' q q' (numE s (hexP s q) (q + 1) - q)) (hs : Stop s s' (numE s (hexP s q) (q + 1)) (q' + (numE s (hexP s q) (q + 1) - q)) tok) : numE s' (hexP s' q') (q' + 1) = q' + (numE s (hexP s q) (q + 1) - q) := by
  have hge := numE_ge s (hexP s q) _ (q + 1) (Nat.le_refl _)
  have h1 := ha.1; have h2 := ha.2.1
  have hxi : ∀ p, inNum p 120 (hexP s q) = true ∧ inNum p 88 (hexP s q) = true := fun p => by
    unfold inNum
    rw [if_neg (by decide), if_neg (by decide), if_neg (by decide), if_neg (by decide)]
    exact ⟨by decide, by decide⟩
  have hx : hexP s' q' = hexP s q := by
    by_cases h : q + 2 ≤ numE s (hexP s q) (q + 1)
    · unfold hexP
      have e0 := ha.at0 (by omega)
      have e1 := ha.at (i := 1) (by omega)
      rw [e0, e1, decide_eq_true (show q' + 2 ≤ s'.size by omega), decide_eq_true (show q + 2 ≤ s.size by omega)]
    · have he : numE s (hexP s q) (q + 1) = q + 1 := by omega
      rw [he, Nat.add_sub_cancel_left] at hs ha
      have hn : hexP s q = false := by
        apply Bool.eq_false_iff.2
        intro hx
        have hx2 := hx
        unfold hexP at hx2
        simp only [Bool.and_eq_true, Bool.or_eq_true, decide_eq_true_eq] at hx2
        have := num_next (s := s) (hex := hexP s q) (q := q + 1) (by omega) (by
          rcases hx2.2.2 with h | h
          · rw [h]; exact (hxi _).1
          · rw [h]; exact (hxi _).2)
        omega
      rw [hn]
      apply Bool.eq_false_iff.2
      intro hx
      unfold hexP at hx
      simp only [Bool.and_eq_true, Bool.or_eq_true, decide_eq_true_eq] at hx
      rcases hs with ⟨_, h3, h4⟩ | ⟨h3, h4, h5, _⟩
      · omega
      · have : hexP s q = true := by
          unfold hexP
          simp only [Bool.and_eq_true, Bool.or_eq_true, decide_eq_true_eq]
          rw [← ha.at0 (by omega), ← h5]
          exact ⟨by omega, hx.2⟩
        rw [hn] at this; cases this
  rw [hx]
  refine num_loc _ q q' (Nat.le_refl _) ha (fun hlt => ?_)
  rcases hs with ⟨_, h3, h4⟩ | ⟨h3, h4, h5, _⟩
  · rw [h4]; exact inNum_blank _ _
  · have := num_stop s (hexP s q) _ (q + 1) (Nat.le_refl _) h3
    rw [h5]
    have e := ha.at (i := numE s (hexP s q) (q + 1) - 1 - q) (by omega)
    rw [show q' + (numE s (hexP s q) (q + 1) - 1 - q) = q' + (numE s (hexP s q) (q + 1) - q) - 1 by omega, show q + (numE s (hexP s q) (q + 1) - 1 - q) = numE s (hexP s q) (q + 1) - 1 by omega] at e
    rw [e]; exact this
theorem sign_st {s s' : ByteArray} {q q' : Nat} {tok : Bool} (hn : signN s q ≠ 0) (ha : Ag s s' q q' (signN s q)) (hs : Stop s s' (q + signN s q) (q' + signN s q) tok)
    (hd : signN s q = 1 → byt s q = 46 → ¬ (q' + 2 < s'.size ∧ byt s' (q' + 1) = 46 ∧ byt s' (q' + 2) = 46)) : signN s' q' = signN s q := by
  have h1 := ha.1; have h2 := ha.2.1
  have more : ∀ k, k = signN s q → ¬ sgB s q (k + 1) → ¬ sgB s' q' (k + 1) := by
    intro k hk hno hx
    subst hk
    rcases hs with ⟨_, h3, h4⟩ | ⟨h3, h4, h5, _⟩
    · have := sg_byte hx (i := signN s q) (by omega); omega
    · refine hno ((sg_ag ⟨by omega, by omega, fun j hj => ?_⟩).1 hx)
      rcases Nat.lt_or_ge j (signN s q) with h | h
      · exact ha.2.2 j h
      · obtain rfl : j = signN s q := by omega
        exact h5.symm
  have same : ∀ k, k ≤ signN s q → (sgB s' q' k ↔ sgB s q k) := fun k hk => sg_ag (ha.le hk)
  rcases signN_eq s q with ⟨a, e⟩ | ⟨n3, a, e⟩ | ⟨n3, n2, a, e⟩ | ⟨_, _, _, e⟩
  · have h3 := (same 3 (by omega)).2 a
    rcases signN_eq s' q' with ⟨_, e'⟩ | ⟨b, _⟩ | ⟨b, _⟩ | ⟨b, _⟩
    · omega
    all_goals exact absurd h3 b
  · have h3 := more 2 e.symm n3
    have h4 := (same 2 (by omega)).2 a
    rcases signN_eq s' q' with ⟨b, e'⟩ | ⟨_, _, e'⟩ | ⟨_, b, _⟩ | ⟨_, b, _⟩
    · exact absurd b h3
    · omega
    · exact absurd h4 b
    · exact absurd h4 b
  · have h3 := more 1 e.symm n2
    have h4 := (same 1 (by omega)).2 a
    have h5 : ¬ sgB s' q' 3 := fun h => by
      rcases sg_three h with h6 | ⟨h6, h7, h8⟩
      · exact h3 h6
      · exact hd e (by rw [← ha.at0 (by omega)]; exact h6) ⟨by have := h.1; omega, h7, h8⟩
    rcases signN_eq s' q' with ⟨b, e'⟩ | ⟨_, b, e'⟩ | ⟨_, _, _, e'⟩ | ⟨_, _, b, _⟩
    · exact absurd b h5
    · exact absurd b h3
    · omega
    · exact absurd h4 b
  · exact absurd e hn
theorem Th.ofN_sh {x : Rs} {q q' e : Nat} (h : x = .inr e) : (Th.ofN x).sh q q' = .note (q' + (e - q)) := by rw [h]; rfl
theorem ofN_ne (x : Rs) : Th.ofN x ≠ .lf ∧ Th.ofN x ≠ .blank := by cases x <;> exact ⟨fun h => (by cases h), fun h => (by cases h)⟩
theorem of_ne (k : Nat) (x : Rs) : Th.of k x ≠ .lf ∧ Th.of k x ≠ .blank := by cases x <;> exact ⟨fun h => (by cases h), fun h => (by cases h)⟩
theorem stop_ident {s s' : ByteArray} {e e' : Nat} {tok : Bool} (hs : Stop s s' e e' tok) (h : (letR (rn s e).1 || digR (rn s e).1) = false) : (letR (rn s' e').1 || digR (rn s' e').1) = false := by
  rcases hs with ⟨_, h3, h4⟩ | ⟨h3, h4, h5, h6⟩
  · rw [rn_in h3, rune_low h3 h4 (by decide) (by decide)]; decide
  · rw [h6]; exact h

/-- WHAT STANDS AT A PLACE hangs on its bytes, and on what stands right behind. -/
theorem thing_loc {s s' : ByteArray} {q q' : Nat} (hq : q < s.size) (hok : (thing s q).ok = true) (ha : Ag s s' q q' ((thing s q).en q - q)) (hm : Okm s q q')
    (hs : thing s q = .lf ∨ thing s q = .blank ∨ Stop s s' ((thing s q).en q) (q' + ((thing s q).en q - q)) (thing s q).isTok)
    (hd : (thing s q).en q = q + 1 → byt s q = 46 → ¬ (q' + 2 < s'.size ∧ byt s' (q' + 1) = 46 ∧ byt s' (q' + 2) = 46)) : thing s' q' = (thing s q).sh q q' := by
  obtain ⟨he1, he2, he3⟩ := (thing_ends hq).2 hok
  have h0 := ok_pos hq hok
  have er := rune_loc hq h0 (ha.le (by omega)) hm
  have hq' : q' < s'.size := by have := ha.2.1; omega
  rw [thing_eq s' q', er]
  have hc := thing_eq s q
  by_cases c1 : (runeAt s q).1 = 10
  · rw [if_pos c1] at hc ⊢; rw [hc]; rfl
  rw [if_neg c1] at hc ⊢
  by_cases c2 : blkR (runeAt s q).1 = true
  · rw [if_pos c2] at hc ⊢; rw [hc]; rfl
  rw [if_neg c2] at hc ⊢
  have hs : Stop s s' ((thing s q).en q) (q' + ((thing s q).en q - q)) (thing s q).isTok := by
    rcases hs with h | h | h
    · exfalso; rw [h] at hc
      revert hc
      repeat' split
      all_goals first
        | (intro x; cases x; done)
        | (exact fun x => absurd x.symm (ofN_ne _).1)
        | (exact fun x => absurd x.symm (of_ne _ _).1)
    · exfalso; rw [h] at hc
      revert hc
      repeat' split
      all_goals first
        | (intro x; cases x; done)
        | (exact fun x => absurd x.symm (ofN_ne _).2)
        | (exact fun x => absurd x.symm (of_ne _ _).2)
    · exact h
  have p1 : pre s' q' [47, 47] = pre s q [47, 47] := pre2_st _ _ (by decide) he1 (fun h => by
    have hg := line_ge s _ q (Nat.le_refl _) (by omega)
    rw [if_pos h] at hc
    have h0 : ¬ (runeAt s q).1 < 0 := by omega
    cases hl : lineR s q with
    | inl f => rw [hl] at hc; rw [hc] at hok; cases hok
    | inr e =>
      rw [hc, hl]
      show q + 2 ≤ e
      rw [lineR, dif_pos hq, if_neg c1, if_neg h0] at hl
      have h6 := (pre2 s q 47 47 (by omega)).1 h
      have h1 : (runeAt s q).2 = 1 := by rw [pre_low hq h (by decide) (by decide)]
      rw [h1, lineR, dif_pos (by omega), rune_low (by omega) h6.2.2 (by decide) (by decide), if_neg (by decide), if_neg (by decide)] at hl
      have h5 := (line_ge s _ _ (Nat.le_refl _) (by simp only; omega)).1 e hl
      simp only at h5
      omega) ha hs
  rw [p1]
  by_cases c3 : pre s q [47, 47] = true
  · rw [if_pos c3] at hc ⊢
    cases hl : lineR s q with
    | inl f => rw [hl] at hc; rw [hc] at hok; cases hok
    | inr e =>
      rw [hl] at hc
      rw [hc] at ha hs ⊢
      have ha : Ag s s' q q' (e - q) := ha
      have hs : Stop s s' e (q' + (e - q)) false := hs
      rcases hs with ⟨h, _⟩ | ⟨h3, h4, h5, _⟩
      · cases h
      · have h6 := (line_end s _ q e (Nat.le_refl _) (by omega) hl).1
        rw [line_loc _ q q' e (Nat.le_refl _) (by omega) hm hl ha h4 (by rw [h5]; omega)]
        rfl
  rw [if_neg c3] at hc ⊢
  have p2 : pre s' q' [47, 42] = pre s q [47, 42] := pre2_st _ _ (by decide) he1 (fun h => by
    have hg := closed_ge s [42, 47] q _ (q + 2) (Nat.le_refl _)
    rw [if_pos h] at hc
    cases hl : closedR s [42, 47] q (q + 2) with
    | inl f => rw [hl] at hc; rw [hc] at hok; cases hok
    | inr e =>
      rw [hc, hl]
      show q + 2 ≤ e
      have := hg.1 e hl
      omega) ha hs
  rw [p2]
  by_cases c4 : pre s q [47, 42] = true
  · rw [if_pos c4] at hc ⊢
    cases hl : closedR s [42, 47] q (q + 2) with
    | inl f => rw [hl] at hc; rw [hc] at hok; cases hok
    | inr e =>
      rw [hl] at hc
      rw [hc] at ha ⊢
      have ha : Ag s s' q q' (e - q) := ha
      have hg := (closed_ge s [42, 47] q _ (q + 2) (Nat.le_refl _)).1 e hl
      rw [closed_loc (a' := q') (by decide) (by decide) _ (q + 2) (q' + 2) e (Nat.le_refl _) (hm.add 2) hl (by have := ha.sub 2 (e - (q + 2)) (by omega); exact this)]
      show Th.note _ = Th.note _
      congr 1; omega
  rw [if_neg c4] at hc ⊢
  by_cases c5 : letR (runeAt s q).1 = true
  · rw [if_pos c5] at hc ⊢
    rw [hc] at ha hs ⊢
    have ha : Ag s s' q q' (identE s q - q) := ha
    have hs : Stop s s' (identE s q) (q' + (identE s q - q)) true := hs
    rw [ident_loc _ q q' (Nat.le_refl _) hm ha (stop_ident hs (ident_stop s _ q (Nat.le_refl _)))]
    rfl
  rw [if_neg c5] at hc ⊢
  have p3 : digTest s' q' (runeAt s q).1 = digTest s q (runeAt s q).1 := by
    unfold digTest
    cases hdr : digR (runeAt s q).1 with
    | true => rfl
    | false =>
      by_cases h46 : (runeAt s q).1 = 46
      · rw [dig_st he1 (fun h => by
          rw [if_pos (by unfold digTest; rw [h, h46]; rfl)] at hc
          rw [hc]
          show q + 2 ≤ numE s (hexP s q) (q + 1)
          have h2 := (digR_rn s (q + 1)).1 h
          exact num_next h2.1 (inNum_dig h2.2)) ha hs]
      · rw [decide_eq_false h46]; rfl
  rw [p3]
  by_cases c6 : digTest s q (runeAt s q).1 = true
  · rw [if_pos c6] at hc ⊢
    rw [hc] at ha hs ⊢
    rw [num_st hq ha hs]
    rfl
  rw [if_neg c6] at hc ⊢
  by_cases c7 : (runeAt s q).1 = 39
  · rw [if_pos c7] at hc ⊢
    cases hl : quotR s 39 q (q + 1) false with
    | inl f => rw [hl] at hc; rw [hc] at hok; cases hok
    | inr e =>
      rw [hl] at hc
      rw [hc] at ha ⊢
      have ha : Ag s s' q q' (e - q) := ha
      have hg := (quot_ge s 39 q _ (q + 1) false (Nat.le_refl _)).1 e hl
      rw [quot_loc (a' := q') (by decide) (by decide) _ (q + 1) (q' + 1) e _ (Nat.le_refl _) (by omega) (hm.add 1) hl (by have := ha.sub 1 (e - (q + 1)) (by omega); exact this)]
      show Th.tok _ _ = Th.tok _ _
      congr 1; omega
  rw [if_neg c7] at hc ⊢
  by_cases c8 : (runeAt s q).1 = 34
  · rw [if_pos c8] at hc ⊢
    cases hl : quotR s 34 q (q + 1) false with
    | inl f => rw [hl] at hc; rw [hc] at hok; cases hok
    | inr e =>
      rw [hl] at hc
      rw [hc] at ha ⊢
      have ha : Ag s s' q q' (e - q) := ha
      have hg := (quot_ge s 34 q _ (q + 1) false (Nat.le_refl _)).1 e hl
      rw [quot_loc (a' := q') (by decide) (by decide) _ (q + 1) (q' + 1) e _ (Nat.le_refl _) (by omega) (hm.add 1) hl (by have := ha.sub 1 (e - (q + 1)) (by omega); exact this)]
      show Th.tok _ _ = Th.tok _ _
      congr 1; omega
  rw [if_neg c8] at hc ⊢
  by_cases c9 : (runeAt s q).1 = 96
  · rw [if_pos c9] at hc ⊢
    cases hl : closedR s [96] q (q + 1) with
    | inl f => rw [hl] at hc; rw [hc] at hok; cases hok
    | inr e =>
      rw [hl] at hc
      rw [hc] at ha ⊢
      have ha : Ag s s' q q' (e - q) := ha
      have hg := (closed_ge s [96] q _ (q + 1) (Nat.le_refl _)).1 e hl
      rw [closed_loc (a' := q') (by decide) (by decide) _ (q + 1) (q' + 1) e (Nat.le_refl _) (hm.add 1) hl (by have := ha.sub 1 (e - (q + 1)) (by omega); exact this)]
      show Th.tok _ _ = Th.tok _ _
      congr 1; omega
  rw [if_neg c9] at hc ⊢
  by_cases c10 : (runeAt s q).1 = 59
  · rw [if_pos c10] at hc ⊢
    rw [hc]
    show Th.tok _ _ = Th.tok _ _
    congr 1; omega
  rw [if_neg c10] at hc ⊢
  by_cases c11 : signN s q = 0
  · rw [if_pos c11] at hc; rw [hc] at hok; cases hok
  · rw [if_neg c11] at hc
    rw [hc] at ha hs hd
    have e : q + signN s q - q = signN s q := by omega
    have ha : Ag s s' q q' (q + signN s q - q) := ha
    have hs : Stop s s' (q + signN s q) (q' + (q + signN s q - q)) true := hs
    rw [e] at ha hs
    have h := sign_st c11 ha hs (fun h1 h2 => hd (by show q + signN s q = q + 1; omega) h2)
    rw [h, if_neg c11, hc]
    show Th.tok _ _ = Th.tok _ _
    congr 1; omega
end Go.Proofs.YtejogobhnbjpdaaDoor
