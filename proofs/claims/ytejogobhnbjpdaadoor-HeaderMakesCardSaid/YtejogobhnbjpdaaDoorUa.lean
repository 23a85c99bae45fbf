/- A comment that stands alone, by the document: no mark stands within what was gone through. -/
import Derived.Test.YtejogobhnbjpdaaDoorU2
import Derived.Test.YtejogobhnbjpdaaDoorHc
namespace Go.Proofs.YtejogobhnbjpdaaDoor
set_option linter.unusedVariables false
set_option linter.unusedSimpArgs false

/-- A byte EF (hexadecimal) begins a sign. -/
def Nbm (s : ByteArray) (a e : Nat) : Prop := ∀ j, a ≤ j → j < e → byt s j = 239 → 0 ≤ (runeAt s j).1
theorem Nbm.nil {s : ByteArray} {a : Nat} : Nbm s a a := fun j h1 h2 => by omega
theorem Nbm.app {s : ByteArray} {a b c : Nat} (h1 : Nbm s a b) (h2 : Nbm s b c) : Nbm s a c := fun j k1 k2 k3 => by
  rcases Nat.lt_or_ge j b with h | h
  · exact h1 j k1 h k3
  · exact h2 j h k2 k3
theorem Nbm.low {s : ByteArray} {a e : Nat} (h : ∀ j, a ≤ j → j < e → byt s j ≠ 239) : Nbm s a e := fun j k1 k2 k3 => absurd k3 (h j k1 k2)
theorem rune_cont {s : ByteArray} {q : Nat} (h : q < s.size) (h0 : 0 ≤ (runeAt s q).1) : ∀ j, q < j → j < q + (runeAt s q).2 → byt s j ≠ 239 := by
  obtain ⟨m, h1, h4, _, hg, he, _⟩ := rune_good h h0
  rw [he]
  intro j hj1 hj2
  have hj2 : j < q + m := hj2
  unfold byt
  rcases (by omega : m = 1 ∨ m = 2 ∨ m = 3 ∨ m = 4) with rfl | rfl | rfl | rfl
  · omega
  · have := (good2 s q h).1 hg
    obtain rfl : j = q + 1 := by omega
    omega
  · have := (good3 s q h).1 hg
    rcases (by omega : j = q + 1 ∨ j = q + 2) with rfl | rfl <;> omega
  · have := (good4 s q h).1 hg
    rcases (by omega : j = q + 1 ∨ j = q + 2 ∨ j = q + 3) with rfl | rfl | rfl <;> omega
theorem nb_rune {s : ByteArray} {q : Nat} (h : q < s.size) (h0 : 0 ≤ (runeAt s q).1) : Nbm s q (q + (runeAt s q).2) := fun j h1 h2 h3 => by
  rcases Nat.eq_or_lt_of_le h1 with rfl | h4
  · exact h0
  · exact absurd h3 (rune_cont h h0 j h4 h2)
theorem nb_ident (s : ByteArray) : ∀ (n q : Nat), s.size - q ≤ n → Nbm s q (identE s q) := by
  intro n
  induction n with
  | zero => intro q hn; rw [identE, dif_neg (by omega)]; exact .nil
  | succ n ih =>
    intro q hn
    rw [identE]
    by_cases h : q < s.size
    · rw [dif_pos h]
      split
      · rename_i hl
        have hr := runeAt_range s q h
        have h0 : 0 ≤ (runeAt s q).1 := by
          rcases Bool.or_eq_true_iff.1 hl with x | x
          · exact letR_pos x
          · exact digR_pos x
        exact (nb_rune h h0).app (ih _ (by omega))
      · exact .nil
    · rw [dif_neg h]; exact .nil
theorem nb_num (s : ByteArray) (hex : Bool) : ∀ (n q : Nat), s.size - q ≤ n → Nbm s q (numE s hex q) := by
  intro n
  induction n with
  | zero => intro q hn; rw [numE, if_neg (by omega)]; exact .nil
  | succ n ih =>
    intro q hn
    rw [numE]
    by_cases h : q < s.size
    · rw [if_pos h]
      split
      · rename_i hi
        refine Nbm.app (b := q + 1) (.low fun j h1 h2 h3 => ?_) (ih _ (by omega))
        obtain rfl : j = q := by omega
        rw [h3] at hi
        unfold inNum at hi
        simp at hi
      · exact .nil
    · rw [if_neg h]; exact .nil
theorem nb_line (s : ByteArray) : ∀ (n q e : Nat), s.size - q ≤ n → lineR s q = .inr e → Nbm s q e := by
  intro n
  induction n with
  | zero =>
    intro q e hn h
    rw [lineR, dif_neg (by omega)] at h
    injection h with h; subst h; exact .nil
  | succ n ih =>
    intro q e hn h
    rw [lineR] at h
    by_cases hq : q < s.size
    · rw [dif_pos hq] at h
      split at h
      · injection h with h; subst h; exact .nil
      · split at h
        · cases h
        · have hr := runeAt_range s q hq
          exact (nb_rune hq (by omega)).app (ih _ _ (by omega) h)
    · rw [dif_neg hq] at h
      injection h with h; subst h; exact .nil
theorem nb_closed (s : ByteArray) (last : List UInt8) (a : Nat) (hlow : ∀ x ∈ last, x.toNat ≠ 239) : ∀ (n q e : Nat), s.size - q ≤ n → closedR s last a q = .inr e → Nbm s q e := by
  intro n
  induction n with
  | zero =>
    intro q e hn h
    rw [closedR, dif_neg (by omega)] at h
    cases h
  | succ n ih =>
    intro q e hn h
    rw [closedR] at h
    by_cases hq : q < s.size
    · rw [dif_pos hq] at h
      split at h
      · cases h
      · split at h
        · rename_i hp
          injection h with h; subst h
          have hp2 := (pre_iff s q last (by omega)).1 hp
          refine .low fun j h1 h2 h3 => ?_
          have h4 := hp2.2 (j - q) (by omega)
          rw [show q + (j - q) = j by omega, h3] at h4
          cases hx : last[j - q]? with
          | none => rw [hx] at h4; cases h4
          | some x =>
            rw [hx] at h4
            injection h4 with h4
            exact hlow x (List.mem_of_getElem? hx) h4
        · have hr := runeAt_range s q hq
          exact (nb_rune hq (by omega)).app (ih _ _ (by omega) h)
    · rw [dif_neg hq] at h
      cases h
theorem nb_quot (s : ByteArray) (qt a : Nat) (hqt : 0 < qt ∧ qt < 128) : ∀ (n q e : Nat) (bh : Bool), s.size - q ≤ n → quotR s qt a q bh = .inr e → Nbm s q e := by
  intro n
  induction n with
  | zero =>
    intro q e bh hn h
    rw [quotR, dif_neg (by omega)] at h
    cases h
  | succ n ih =>
    intro q e bh hn h
    rw [quotR] at h
    by_cases hq : q < s.size
    · rw [dif_pos hq] at h
      split at h
      · cases h
      · split at h
        · cases h
        · split at h
          · rename_i hc
            split at h
            · cases h
            · injection h with h; subst h
              have hb := (rune_byte hq qt hqt.1 hqt.2).1 hc.1
              refine .low fun j h1 h2 h3 => ?_
              obtain rfl : j = q := by omega
              omega
          · have hr := runeAt_range s q hq
            exact (nb_rune hq (by omega)).app (ih _ _ _ (by omega) h)
    · rw [dif_neg hq] at h
      cases h
theorem nb_one {s : ByteArray} {q : Nat} (h : byt s q ≠ 239) : Nbm s q (q + 1) := .low fun j h1 h2 h3 => by
  obtain rfl : j = q := by omega
  exact h h3
theorem nb_thing {s : ByteArray} {q : Nat} (hq : q < s.size) (hok : (thing s q).ok = true) : Nbm s q ((thing s q).en q) := by
  have h0 := ok_pos hq hok
  have hc := thing_eq s q
  have ofN_in : ∀ {x : Rs}, (Th.ofN x).ok = true → (∀ e, x = .inr e → Nbm s q e) → Nbm s q ((Th.ofN x).en q) := by
    intro x hx hy
    cases x with
    | inl f => cases hx
    | inr e => exact hy e rfl
  have of_in : ∀ {k : Nat} {x : Rs}, (Th.of k x).ok = true → (∀ e, x = .inr e → Nbm s q e) → Nbm s q ((Th.of k x).en q) := by
    intro k x hx hy
    cases x with
    | inl f => cases hx
    | inr e => exact hy e rfl
  have lo : ∀ c : Nat, 0 < c → c < 128 → (runeAt s q).1 = (c : Int) → byt s q ≠ 239 := fun c h1 h2 h3 => by
    have := (rune_byte hq c h1 h2).1 h3
    omega
  revert hok
  rw [hc]
  split
  · rename_i h
    intro _
    exact nb_one (lo 10 (by omega) (by omega) h)
  split
  · rename_i h
    intro _
    have := (blk_byt hq h).1
    exact nb_one (by omega)
  split
  · intro hok
    exact ofN_in hok fun e he => nb_line s _ _ _ (Nat.le_refl _) he
  split
  · rename_i hp
    intro hok
    have hp := (pre2 s q _ _ (by omega)).1 hp
    refine ofN_in hok fun e he => Nbm.app (b := q + 2) (.low fun j h1 h2 h3 => ?_) (nb_closed s _ _ (by decide) _ _ _ (Nat.le_refl _) he)
    rcases (by omega : j = q ∨ j = q + 1) with rfl | rfl
    · rw [h3] at hp; exact absurd hp.2.1 (by decide)
    · rw [h3] at hp; exact absurd hp.2.2 (by decide)
  split
  · intro hok
    exact nb_ident s _ _ (Nat.le_refl _)
  split
  · rename_i hd
    intro hok
    refine Nbm.app (b := q + 1) (nb_one ?_) (nb_num s _ _ _ (Nat.le_refl _))
    unfold digTest at hd
    rcases Bool.or_eq_true_iff.1 hd with h | h
    · have := digR_byt hq h; omega
    · rw [Bool.and_eq_true] at h
      exact lo 46 (by omega) (by omega) (of_decide_eq_true h.1)
  split
  · rename_i h
    intro hok
    exact of_in hok fun e he => (nb_one (lo 39 (by omega) (by omega) h)).app (nb_quot s 39 q (by omega) _ _ _ _ (Nat.le_refl _) he)
  split
  · rename_i h
    intro hok
    exact of_in hok fun e he => (nb_one (lo 34 (by omega) (by omega) h)).app (nb_quot s 34 q (by omega) _ _ _ _ (Nat.le_refl _) he)
  split
  · rename_i h
    intro hok
    exact of_in hok fun e he => (nb_one (lo 96 (by omega) (by omega) h)).app (nb_closed s _ _ (by decide) _ _ _ (Nat.le_refl _) he)
  split
  · rename_i h
    intro _
    exact nb_one (lo 59 (by omega) (by omega) h)
  split
  · intro h; cases h
  · intro _
    have hs : sgB s q (signN s q) := by
      rcases signN_eq s q with ⟨a3, e⟩ | ⟨_, a3, e⟩ | ⟨_, _, a3, e⟩ | ⟨_, _, _, e⟩
      · rw [e]; exact a3
      · rw [e]; exact a3
      · rw [e]; exact a3
      · contradiction
    refine .low fun j h1 h2 h3 => ?_
    have h2 : j < q + signN s q := h2
    have := sg_byte hs (i := j - q) (by omega)
    rw [show q + (j - q) = j by omega] at this
    omega
/-- What was gone through, up to each comment. -/
theorem nb_lex (s : ByteArray) (a : Nat) : ∀ q l m, Nbm s a q → a ≤ q → (∀ x ∈ m, Nbm s a x.2.2 ∧ a ≤ x.2.2) → ∀ x ∈ (lexT s q l m).2, Nbm s a x.2.2 ∧ a ≤ x.2.2 := by
  refine lex_ind s _ ?_ ?_ ?_
  · intro q l m h hn ha hm
    rw [lexT_out h]; exact hm
  · intro q l m f h ht hn ha hm
    rw [lexT_bad h ht]; exact hm
  · intro q l m h hok ih hn ha hm
    rw [lexT_step h hok]
    have he := ((thing_ends h).2 hok).1
    refine ih (hn.app (nb_thing h hok)) (by omega) ?_
    cases hb : thing s q with
    | note e =>
      intro x hx
      rcases List.mem_append.1 hx with h1 | h1
      · exact hm x h1
      · rw [List.mem_singleton.1 h1]; exact ⟨hn, ha⟩
    | _ => exact hm
theorem nb_notes (s : ByteArray) : ∀ x ∈ lexM s, Nbm s (skN s) x.2.2 ∧ skN s ≤ x.2.2 := nb_lex s (skN s) (skN s) [] [] .nil (Nat.le_refl _) (fun _ h => by cases h)
/-- A mark stands at a place. -/
def mkAt (s : ByteArray) (i : Nat) : Bool := decide (byt s i = 239 ∧ byt s (i + 1) = 187 ∧ byt s (i + 2) = 191)
theorem mkAt_zero {s : ByteArray} {i : Nat} (hi : i + 3 ≤ s.size) (h : mkAt s i = true) (h0 : 0 ≤ (runeAt s i).1) : i = 0 := by
  have h := of_decide_eq_true h
  obtain ⟨m, h1, h4, _, hg, he, hn⟩ := rune_good (show i < s.size by omega) h0
  unfold byt at h
  rcases (by omega : m = 1 ∨ m = 2 ∨ m = 3 ∨ m = 4) with rfl | rfl | rfl | rfl
  · have := (good1 s i (by omega)).1 hg; omega
  · have := (good2 s i (by omega)).1 hg; omega
  · rcases Nat.eq_zero_or_pos i with h5 | h5
    · exact h5
    · exfalso
      apply hn
      refine ⟨?_, h5⟩
      simp only [cand]
      omega
  · have := (good4 s i (by omega)).1 hg; omega
theorem mkAt_sk {s : ByteArray} (hs : 3 ≤ s.size) : mkAt s 0 = true ↔ skN s = 3 := by
  rw [sk_iff, pre3]
  unfold mkAt
  rw [decide_eq_true_iff]
  exact ⟨fun h => ⟨hs, h.1, h.2.1, h.2.2⟩, fun h => ⟨h.2.1, h.2.2.1, h.2.2.2⟩⟩
/-- No mark behind the first place, up to a comment. -/
theorem no_mk {s : ByteArray} {p : Nat} (hn : Nbm s (skN s) p) (hp : p ≤ s.size) {i : Nat} (hi : skN s ≤ i) (h3 : i + 3 ≤ p) : mkAt s i = false := by
  rw [Bool.eq_false_iff]
  intro h
  have h0 := hn i hi (by omega) (of_decide_eq_true h).1
  have hz := mkAt_zero (by omega) h h0
  subst hz
  have := (mkAt_sk (by omega)).1 h
  omega
def thinN (c : Nat) : Bool := decide (c = 32 ∨ c = 9 ∨ c = 13)
/-- By the document: from a place up to another one there are only blanks, and marks. -/
def goR (s : ByteArray) (p i : Nat) : Bool :=
  if h : i < p then
    if thinN (byt s i) = true then goR s p (i + 1)
    else if i + 3 ≤ p ∧ mkAt s i = true then goR s p (i + 3)
    else false
  else true
termination_by p - i
theorem goR_end {s : ByteArray} {p i : Nat} (h : ¬ i < p) : goR s p i = true := by rw [goR, dif_neg h]
theorem goR_thin {s : ByteArray} {p i : Nat} (h : i < p) (ht : thinN (byt s i) = true) : goR s p i = goR s p (i + 1) := by rw [goR, dif_pos h, if_pos ht]
theorem goR_mark {s : ByteArray} {p i : Nat} (h : i + 3 ≤ p) (hm : mkAt s i = true) : goR s p i = goR s p (i + 3) := by
  rw [goR, dif_pos (by omega), if_neg, if_pos ⟨h, hm⟩]
  have := (of_decide_eq_true hm).1
  rw [this]; decide
theorem goR_no {s : ByteArray} {p i : Nat} (h : i < p) (ht : thinN (byt s i) = false) (hm : ¬ (i + 3 ≤ p ∧ mkAt s i = true)) : goR s p i = false := by
  rw [goR, dif_pos h, if_neg (by rw [ht]; decide), if_neg hm]
theorem goR_all {s : ByteArray} {p : Nat} : ∀ (n i : Nat), p - i ≤ n → (∀ j, i ≤ j → j + 3 ≤ p → mkAt s j = false) → (goR s p i = true ↔ ∀ j, i ≤ j → j < p → thinN (byt s j) = true) := by
  intro n
  induction n with
  | zero =>
    intro i hn hm
    rw [goR_end (by omega)]
    exact ⟨fun _ j h1 h2 => by omega, fun _ => rfl⟩
  | succ n ih =>
    intro i hn hm
    by_cases hi : i < p
    case neg =>
      rw [goR_end hi]
      exact ⟨fun _ j h1 h2 => by omega, fun _ => rfl⟩
    cases ht : thinN (byt s i) with
    | true =>
      rw [goR_thin hi ht, ih (i + 1) (by omega) (fun j h1 h2 => hm j (by omega) h2)]
      constructor
      · intro h j h1 h2
        rcases Nat.eq_or_lt_of_le h1 with rfl | h3
        · exact ht
        · exact h j h3 h2
      · intro h j h1 h2; exact h j (by omega) h2
    | false =>
      rw [goR_no hi ht (fun h => by have := hm i (Nat.le_refl _) h.1; rw [this] at h; exact absurd h.2 (by decide))]
      constructor
      · intro h; cases h
      · intro h; have := h i (Nat.le_refl _) hi; rw [ht] at this; cases this
/-! ### Blanks -/
theorem thinN_u8 (c : UInt8) : ([32, 9, 13] : List UInt8).contains c = thinN c.toNat := by
  unfold thinN
  by_cases h1 : c = 32
  · subst h1; rfl
  by_cases h2 : c = 9
  · subst h2; rfl
  by_cases h3 : c = 13
  · subst h3; rfl
  have e1 : c.toNat ≠ 32 := fun h => h1 (UInt8.toNat_inj.1 h)
  have e2 : c.toNat ≠ 9 := fun h => h2 (UInt8.toNat_inj.1 h)
  have e3 : c.toNat ≠ 13 := fun h => h3 (UInt8.toNat_inj.1 h)
  rw [decide_eq_false (by omega)]
  simp [h1, h2, h3]
theorem dropWhile_nil {p : UInt8 → Bool} : ∀ l : List UInt8, l.dropWhile p = [] ↔ ∀ x ∈ l, p x = true
  | [] => by simp
  | x :: l => by
    rw [List.dropWhile_cons]
    split
    · rename_i h
      rw [dropWhile_nil l]
      simp [h]
    · rename_i h
      simp at h
      simp [h]
theorem trim_nil (l cs : List UInt8) : Lib.trimS l cs = [] ↔ ∀ x ∈ l, cs.contains x = true := by
  unfold Lib.trimS Lib.trimLeftS Lib.trimRightS
  rw [dropWhile_nil]
  constructor
  · intro h
    cases hd : l.reverse.dropWhile (cs.contains ·) with
    | nil =>
      have := (dropWhile_nil _).1 hd
      intro x hx
      exact this x (List.mem_reverse.2 hx)
    | cons y r =>
      exfalso
      have h1 := dropWhile_head _ _ _ hd
      have h2 := h y (by rw [hd]; simp)
      rw [h1] at h2; cases h2
  · intro h x hx
    have : l.reverse.dropWhile (cs.contains ·) = [] := (dropWhile_nil _).2 (fun x hx => h x (List.mem_reverse.1 hx))
    rw [this] at hx
    cases hx
theorem ba_list_nil {t : ByteArray} : t = ⟨#[]⟩ ↔ t.data.toList = [] := by
  constructor
  · rintro rfl; rfl
  · intro h; exact ba_ext h
theorem mem_byt {s : ByteArray} {p : UInt8 → Bool} : (∀ x ∈ s.data.toList, p x = true) ↔ ∀ j, j < s.size → p (s.get! j) = true := by
  constructor
  · intro h j hj
    exact h _ (List.mem_of_getElem? (byt_list hj))
  · intro h x hx
    obtain ⟨j, hj⟩ := List.getElem?_of_mem hx
    have hlt : j < s.size := by have := (List.getElem?_eq_some_iff.1 hj).1; simpa using this
    rw [byt_list hlt] at hj
    injection hj with hj
    rw [← hj]; exact h j hlt
theorem blankB_iff (t : ByteArray) : blankB t = true ↔ ∀ j, j < t.size → thinN (byt t j) = true := by
  unfold blankB
  rw [decide_eq_true_iff, ba_list_nil]
  show Lib.trimS t.data.toList [32, 9, 13] = [] ↔ _
  rw [trim_nil, mem_byt]
  constructor
  · intro h j hj; have := h j hj; rw [thinN_u8] at this; exact this
  · intro h j hj; rw [thinN_u8]; exact h j hj
theorem byt_sub {s : ByteArray} {a e j : Nat} (he : e ≤ s.size) (hj : a + j < e) : byt (s.extract a e) j = byt s (a + j) := by
  have h := ext_get s a (e - a) j (by omega)
  rw [show a + (e - a) = e by omega, if_pos (by omega)] at h
  have hsz : j < (s.extract a e).size := by rw [ByteArray.size_extract]; omega
  rw [byt_list hsz] at h
  injection h with h
  unfold byt
  rw [h]
/-- Where a comment's line begins, by the document. -/
def lineAt (s : ByteArray) (p : Nat) : Nat := (Lib.lastIndexByte (s.extract 0 p) 10 + 1).toNat
theorem alone_doc {s : ByteArray} {p : Nat} (hn : Nbm s (skN s) p) (hk : skN s ≤ p) (hp : p ≤ s.size) : goR s p (lineAt s p) = blankB (lineB (s.extract 0 p)) := by
  have hz : (s.extract 0 p).size = p := by rw [ByteArray.size_extract]; omega
  have hb : ∀ i, skN s ≤ i → i ≤ p → (goR s p i = blankB ((s.extract 0 p).extract i p)) := by
    intro i h1 h2
    rw [Bool.eq_iff_iff, goR_all _ _ (Nat.le_refl _) (fun j h3 h4 => no_mk hn hp (by omega) h4), blankB_iff]
    have hez : ((s.extract 0 p).extract i p).size = p - i := by rw [ByteArray.size_extract, hz]; omega
    have hby : ∀ j, i + j < p → byt ((s.extract 0 p).extract i p) j = byt s (i + j) := fun j hj => by
      rw [byt_sub (by omega) hj, byt_ext hp (by omega)]
    constructor
    · intro h j hj
      rw [hby j (by omega)]
      exact h _ (by omega) (by omega)
    · intro h j h3 h4
      have := h (j - i) (by omega)
      rw [hby _ (by omega), show i + (j - i) = j by omega] at this
      exact this
  unfold lineAt lineB lineN
  rw [hz]
  rcases Lib.lastIdx_spec (s.extract 0 p) 10 (s.extract 0 p).size with ⟨h1, h2⟩ | ⟨n, hnl, h1, h2, h3⟩
  · have h1 : Lib.lastIndexByte (s.extract 0 p) 10 = -1 := h1
    rw [h1, if_pos (by decide)]
    have e0 : ((-1 : Int) + 1).toNat = 0 := by decide
    rw [e0]
    have hsk : skN (s.extract 0 p) = skN s := by
      rcases sk_01 s with h | h
      · rw [h]
        have : ¬ skN (s.extract 0 p) = 3 := fun h4 => by
          rw [sk_iff, pre3, hz] at h4
          have h5 : skN s = 3 := by
            rw [sk_iff, pre3]
            rw [byt_ext hp (by omega), byt_ext hp (by omega), byt_ext hp (by omega)] at h4
            exact ⟨by omega, h4.2.1, h4.2.2.1, h4.2.2.2⟩
          omega
        rcases sk_01 (s.extract 0 p) with h5 | h5
        · exact h5
        · exact absurd h5 this
      · rw [h] at hk ⊢
        rw [sk_iff, pre3] at h ⊢
        rw [hz, byt_ext hp (by omega), byt_ext hp (by omega), byt_ext hp (by omega)]
        exact ⟨hk, h.2⟩
    rw [hsk]
    rcases sk_01 s with h | h
    · rw [h]; exact hb 0 (by omega) (by omega)
    · rw [h]
      rw [h] at hk
      rw [goR_mark (by omega) ((mkAt_sk (by omega)).2 h)]
      exact hb 3 (by omega) hk
  · have h1 : Lib.lastIndexByte (s.extract 0 p) 10 = n := h1
    rw [h1, if_neg (by omega)]
    have e0 : ((n : Int) + 1).toNat = n + 1 := by omega
    rw [e0, Int.toNat_natCast]
    refine hb (n + 1) ?_ (by omega)
    rcases sk_01 s with h | h
    · omega
    · rw [h]
      rcases Nat.lt_or_ge n 3 with h5 | h5
      · exfalso
        rw [h] at hk
        rw [sk_iff, pre3] at h
        have h6 : byt (s.extract 0 p) n = 10 := by
          show ((s.extract 0 p).data[n]!).toNat = 10
          omega
        rw [byt_ext hp (by omega)] at h6
        rcases (by omega : n = 0 ∨ n = 1 ∨ n = 2) with rfl | rfl | rfl <;> omega
      · omega
end Go.Proofs.YtejogobhnbjpdaaDoor
