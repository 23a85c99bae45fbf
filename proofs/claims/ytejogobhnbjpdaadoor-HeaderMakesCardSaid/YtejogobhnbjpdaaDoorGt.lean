/- The theory of tokens: what stands at a place of a text, and what it is gone through to. -/
import Derived.Test.YtejogobhnbjpdaaDoorMa
namespace Go.Proofs.YtejogobhnbjpdaaDoor
set_option linter.unusedVariables false

abbrev Rs := Nat ⊕ Nat
def letR (r : Int) : Bool := decide (128 ≤ r ∨ r = 95 ∨ (65 ≤ r ∧ r ≤ 90) ∨ (97 ≤ r ∧ r ≤ 122))
def digR (r : Int) : Bool := decide (48 ≤ r ∧ r ≤ 57)
def blkR (r : Int) : Bool := decide (r = 32 ∨ r = 9 ∨ r = 13)
def byt (s : ByteArray) (i : Nat) : Nat := (s.get! i).toNat

/-- The sign at a place; at the end there is none, of no bytes. -/
def rn (s : ByteArray) (i : Nat) : Int × Nat := if i < s.size then runeAt s i else (-1, 0)
theorem rn_in {s : ByteArray} {i : Nat} (h : i < s.size) : rn s i = runeAt s i := if_pos h
theorem rn_out {s : ByteArray} {i : Nat} (h : ¬ i < s.size) : rn s i = (-1, 0) := if_neg h

theorem byt_lt (s : ByteArray) (i : Nat) : byt s i < 256 := (s.get! i).toNat_lt
theorem rune_low {s : ByteArray} {q c : Nat} (h : q < s.size) (hc : byt s q = c) (h0 : 0 < c) (h1 : c < 128) : runeAt s q = ((c : Int), 1) := by
  unfold byt at hc
  rw [← ref_is s q h, refAt_good s q 1 (by omega) (by omega) (fun k hk hk1 => by omega) ((good1 s q h).2 (by omega))]
  have hcd : cand s q 1 = c := hc
  unfold finV
  rw [hcd, if_neg (by omega)]
/-- A sign of a place whose byte is none below 128 is none, or is above 127. -/
theorem rune_high {s : ByteArray} {q : Nat} (h : q < s.size) (hc : byt s q = 0 ∨ 128 ≤ byt s q) : (runeAt s q).1 = -1 ∨ 128 ≤ (runeAt s q).1 := by
  unfold byt at hc
  rw [← ref_is s q h]
  have g1 : ¬ goodB s q 1 = true := fun hg => by have := (good1 s q h).1 hg; omega
  have fin : ∀ r m, 128 ≤ r → (finV r m q).1 = -1 ∨ 128 ≤ (finV r m q).1 := fun r m hr => by
    unfold finV; split
    · left; rfl
    · right; show (128 : Int) ≤ (r : Int); omega
  by_cases g2 : goodB s q 2 = true
  · rw [refAt_good s q 2 (by omega) (by omega) (fun k hk hk1 => by
      have hk2 : k = 1 := by omega
      subst hk2
      exact Bool.eq_false_iff.2 g1) g2]
    exact fin _ _ ((good2 s q h).1 g2).2.2.2
  by_cases g3 : goodB s q 3 = true
  · rw [refAt_good s q 3 (by omega) (by omega) (fun k hk hk1 => by
      rcases (by omega : k = 1 ∨ k = 2) with rfl | rfl
      · exact Bool.eq_false_iff.2 g1
      · exact Bool.eq_false_iff.2 g2) g3]
    exact fin _ _ (by have := ((good3 s q h).1 g3).2.2.2.2; omega)
  by_cases g4 : goodB s q 4 = true
  · rw [refAt_good s q 4 (by omega) (by omega) (fun k hk hk1 => by
      rcases (by omega : k = 1 ∨ k = 2 ∨ k = 3) with rfl | rfl | rfl
      · exact Bool.eq_false_iff.2 g1
      · exact Bool.eq_false_iff.2 g2
      · exact Bool.eq_false_iff.2 g3) g4]
    exact fin _ _ (by have := ((good4 s q h).1 g4).2.2.2.2; omega)
  · rw [refAt_none s q (fun k hk hk4 => by
      rcases (by omega : k = 1 ∨ k = 2 ∨ k = 3 ∨ k = 4) with rfl | rfl | rfl | rfl
      · exact Bool.eq_false_iff.2 g1
      · exact Bool.eq_false_iff.2 g2
      · exact Bool.eq_false_iff.2 g3
      · exact Bool.eq_false_iff.2 g4)]
    left; rfl
/-- Behind a sign's first byte none stands below 128. -/
theorem rune_tail {s : ByteArray} {q : Nat} (h : q < s.size) (h0 : 0 ≤ (runeAt s q).1) : (runeAt s q).2 = 1 ∨ ∀ j, 0 ≤ j → j < (runeAt s q).2 → 128 ≤ byt s (q + j) := by
  unfold byt
  rw [← ref_is s q h] at h0 ⊢
  by_cases g1 : goodB s q 1 = true
  · left
    rw [refAt_good s q 1 (by omega) (by omega) (fun k hk hk1 => by omega) g1] at h0 ⊢
    unfold finV at h0 ⊢; split <;> rename_i hx
    · rw [if_pos hx] at h0; exact absurd h0 (by decide)
    · rfl
  by_cases g2 : goodB s q 2 = true
  · right
    rw [refAt_good s q 2 (by omega) (by omega) (fun k hk hk1 => by
      have hk2 : k = 1 := by omega
      subst hk2
      exact Bool.eq_false_iff.2 g1) g2] at h0 ⊢
    have hg := (good2 s q h).1 g2
    unfold finV at h0 ⊢; split <;> rename_i hx
    · rw [if_pos hx] at h0; exact absurd h0 (by decide)
    · intro j _ hj
      have hj2 : j < 2 := hj
      rcases (by omega : j = 0 ∨ j = 1) with rfl | rfl
      · rw [Nat.add_zero]; omega
      · omega
  by_cases g3 : goodB s q 3 = true
  · right
    rw [refAt_good s q 3 (by omega) (by omega) (fun k hk hk1 => by
      rcases (by omega : k = 1 ∨ k = 2) with rfl | rfl
      · exact Bool.eq_false_iff.2 g1
      · exact Bool.eq_false_iff.2 g2) g3] at h0 ⊢
    have hg := (good3 s q h).1 g3
    unfold finV at h0 ⊢; split <;> rename_i hx
    · rw [if_pos hx] at h0; exact absurd h0 (by decide)
    · intro j _ hj
      have hj2 : j < 3 := hj
      rcases (by omega : j = 0 ∨ j = 1 ∨ j = 2) with rfl | rfl | rfl
      · rw [Nat.add_zero]; omega
      · omega
      · omega
  by_cases g4 : goodB s q 4 = true
  · right
    rw [refAt_good s q 4 (by omega) (by omega) (fun k hk hk1 => by
      rcases (by omega : k = 1 ∨ k = 2 ∨ k = 3) with rfl | rfl | rfl
      · exact Bool.eq_false_iff.2 g1
      · exact Bool.eq_false_iff.2 g2
      · exact Bool.eq_false_iff.2 g3) g4] at h0 ⊢
    have hg := (good4 s q h).1 g4
    unfold finV at h0 ⊢; split <;> rename_i hx
    · rw [if_pos hx] at h0; exact absurd h0 (by decide)
    · intro j _ hj
      have hj2 : j < 4 := hj
      rcases (by omega : j = 0 ∨ j = 1 ∨ j = 2 ∨ j = 3) with rfl | rfl | rfl | rfl
      · rw [Nat.add_zero]; omega
      · omega
      · omega
      · omega
  · left
    rw [refAt_none s q (fun k hk hk4 => by
      rcases (by omega : k = 1 ∨ k = 2 ∨ k = 3 ∨ k = 4) with rfl | rfl | rfl | rfl
      · exact Bool.eq_false_iff.2 g1
      · exact Bool.eq_false_iff.2 g2
      · exact Bool.eq_false_iff.2 g3
      · exact Bool.eq_false_iff.2 g4)]
/-- A sign below 128 is its byte. -/
theorem rune_byte {s : ByteArray} {q : Nat} (h : q < s.size) (c : Nat) (h0 : 0 < c) (h1 : c < 128) : (runeAt s q).1 = (c : Int) ↔ byt s q = c := by
  constructor
  · intro hr
    rcases (by omega : (byt s q = 0 ∨ 128 ≤ byt s q) ∨ (0 < byt s q ∧ byt s q < 128)) with hb | ⟨hb0, hb1⟩
    · rcases rune_high h hb with h2 | h2 <;> omega
    · have := rune_low h rfl hb0 hb1
      rw [this] at hr
      have hr2 : ((byt s q : Nat) : Int) = (c : Int) := hr
      omega
  · intro hb
    rw [rune_low h hb h0 h1]
theorem rune_one {s : ByteArray} {q : Nat} (h : q < s.size) {c : Nat} (h0 : 0 < c) (h1 : c < 128) (hr : (runeAt s q).1 = (c : Int)) : (runeAt s q).2 = 1 := by
  rw [rune_low h ((rune_byte h c h0 h1).1 hr) h0 h1]

def identE (s : ByteArray) (q : Nat) : Nat :=
  if h : q < s.size then if (letR (runeAt s q).1 || digR (runeAt s q).1) = true then identE s (q + (runeAt s q).2) else q else q
termination_by s.size - q
decreasing_by have := runeAt_range s q h; omega
def inNum (p b : Nat) (hex : Bool) : Bool :=
  if b = 46 then true else if b = 43 ∨ b = 45 then decide (p = 112 ∨ p = 80) || (!hex && decide (p = 101 ∨ p = 69)) else decide (b < 128) && (letR b || digR b)
def numE (s : ByteArray) (hex : Bool) (q : Nat) : Nat :=
  if q < s.size then if inNum (byt s (q - 1)) (byt s q) hex = true then numE s hex (q + 1) else q else q
termination_by s.size - q
def hexP (s : ByteArray) (q : Nat) : Bool := decide (q + 2 ≤ s.size) && (decide (byt s q = 48) && (decide (byt s (q + 1) = 120) || decide (byt s (q + 1) = 88)))
def lineR (s : ByteArray) (q : Nat) : Rs :=
  if h : q < s.size then if (runeAt s q).1 = 10 then .inr q else if (runeAt s q).1 < 0 then .inl q else lineR s (q + (runeAt s q).2) else .inr q
termination_by s.size - q
decreasing_by have := runeAt_range s q h; omega
/-- Does a text begin with another one, from a place on? -/
def pre (s : ByteArray) (q : Nat) (x : List UInt8) : Bool := Lib.hasPrefix (s.data.toList.drop q) x
def closedR (s : ByteArray) (last : List UInt8) (a q : Nat) : Rs :=
  if h : q < s.size then if (runeAt s q).1 < 0 then .inl q else if pre s q last = true then .inr (q + last.length) else closedR s last a (q + (runeAt s q).2) else .inl a
termination_by s.size - q
decreasing_by have := runeAt_range s q h; omega
def quotR (s : ByteArray) (qt : Nat) (a q : Nat) (behind : Bool) : Rs :=
  if h : q < s.size then
    if (runeAt s q).1 = 10 then .inl a
    else if (runeAt s q).1 < 0 then .inl q
    else if (runeAt s q).1 = qt ∧ behind = false then (if qt = 39 ∧ q = a + 1 then .inl a else .inr (q + 1))
    else quotR s qt a (q + (runeAt s q).2) (decide ((runeAt s q).1 = 92) && !behind)
  else .inl a
termination_by s.size - q
decreasing_by have := runeAt_range s q h; omega
/-- The same by the document: what stands behind a backslash is gone over with it. -/
def quotD (s : ByteArray) (qt : Nat) (a q : Nat) : Rs :=
  if h : q < s.size then
    if byt s q = qt then (if qt = 39 ∧ q = a + 1 then .inl a else .inr (q + 1))
    else if byt s q = 10 then .inl a
    else if (runeAt s q).1 < 0 then .inl q
    else if (runeAt s q).1 = 92 then
      if h2 : q + (runeAt s q).2 < s.size then
        if (runeAt s (q + (runeAt s q).2)).1 = 10 then .inl a
        else if (runeAt s (q + (runeAt s q).2)).1 < 0 then .inl (q + (runeAt s q).2)
        else quotD s qt a (q + (runeAt s q).2 + (runeAt s (q + (runeAt s q).2)).2)
      else .inl a
    else quotD s qt a (q + (runeAt s q).2)
  else .inl a
termination_by s.size - q
decreasing_by
  all_goals have h1 := runeAt_range s q h
  · have := runeAt_range s _ h2; omega
  · omega
theorem quot_doc (s : ByteArray) (qt a : Nat) (hq : 0 < qt ∧ qt < 128 ∧ qt ≠ 10 ∧ qt ≠ 92) : ∀ (n q : Nat), s.size - q ≤ n → quotR s qt a q false = quotD s qt a q := by
  intro n
  induction n with
  | zero => intro q hn; rw [quotR, quotD, dif_neg (by omega), dif_neg (by omega)]
  | succ n ih =>
    intro q hn
    by_cases h : q < s.size
    · have hr := runeAt_range s q h
      have hqt := rune_byte h qt hq.1 hq.2.1
      have h10 : (runeAt s q).1 = 10 ↔ byt s q = 10 := rune_byte h 10 (by omega) (by omega)
      rw [quotR, quotD, dif_pos h, dif_pos h]
      by_cases e1 : byt s q = qt
      · have e2 := hqt.2 e1
        rw [if_pos e1, if_neg (by rw [e2]; omega), if_neg (by rw [e2]; omega), if_pos ⟨e2, rfl⟩]
      · have e1' : ¬ (runeAt s q).1 = (qt : Int) := fun x => e1 (hqt.1 x)
        rw [if_neg e1]
        by_cases e3 : byt s q = 10
        · rw [if_pos (h10.2 e3), if_pos e3]
        · have e3' : ¬ (runeAt s q).1 = 10 := fun x => e3 (h10.1 x)
          rw [if_neg e3', if_neg e3]
          by_cases e4 : (runeAt s q).1 < 0
          · rw [if_pos e4, if_pos e4]
          · rw [if_neg e4, if_neg e4, if_neg (fun x => e1' x.1)]
            by_cases e5 : (runeAt s q).1 = 92
            · rw [if_pos e5, decide_eq_true e5]
              show quotR s qt a _ true = _
              rw [quotR]
              by_cases h2 : q + (runeAt s q).2 < s.size
              · have hr2 := runeAt_range s _ h2
                rw [dif_pos h2, dif_pos h2]
                by_cases e6 : (runeAt s (q + (runeAt s q).2)).1 = 10
                · rw [if_pos e6, if_pos e6]
                · rw [if_neg e6, if_neg e6]
                  by_cases e7 : (runeAt s (q + (runeAt s q).2)).1 < 0
                  · rw [if_pos e7, if_pos e7]
                  · rw [if_neg e7, if_neg e7, if_neg (fun x => by cases x.2), Bool.not_true, Bool.and_false]
                    exact ih _ (by omega)
              · rw [dif_neg h2, dif_neg h2]
            · rw [if_neg e5, decide_eq_false e5, Bool.false_and]
              exact ih _ (by omega)
    · rw [quotR, quotD, dif_neg h, dif_neg h]
def hasLF (s : ByteArray) (a e : Nat) : Bool := (List.range (e - a)).any fun k => decide (byt s (a + k) = 10)
def signs : List (List UInt8) := [[43], [45], [42], [47], [37], [38], [124], [94], [60, 60], [62, 62], [38, 94], [43, 61], [45, 61], [42, 61], [47, 61], [37, 61], [38, 61], [124, 61], [94, 61], [60, 60, 61], [62, 62, 61], [38, 94, 61], [38, 38], [124, 124], [60, 45], [43, 43], [45, 45], [61, 61], [60], [62], [61], [33], [126], [33, 61], [60, 61], [62, 61], [58, 61], [46, 46, 46], [40], [41], [91], [93], [123], [125], [44], [46], [58]]
/-- How long the longest sign is that stands at a place; 0: none does. -/
def signN (s : ByteArray) (q : Nat) : Nat :=
  if 3 ≤ s.size - q ∧ signs.contains (s.extract q (q + 3)).data.toList then 3
  else if 2 ≤ s.size - q ∧ signs.contains (s.extract q (q + 2)).data.toList then 2
  else if 1 ≤ s.size - q ∧ signs.contains (s.extract q (q + 1)).data.toList then 1 else 0
inductive Th where
  | bad (f : Nat) | lf | blank | note (e : Nat) | tok (k e : Nat)
def Th.of (k : Nat) : Rs → Th | .inl f => .bad f | .inr e => .tok k e
def Th.ofN : Rs → Th | .inl f => .bad f | .inr e => .note e
def thing (s : ByteArray) (q : Nat) : Th :=
  let r := (runeAt s q).1
  if r = 10 then .lf
  else if blkR r = true then .blank
  else if pre s q [47, 47] = true then .ofN (lineR s q)
  else if pre s q [47, 42] = true then .ofN (closedR s [42, 47] q (q + 2))
  else if letR r = true then .tok 1 (identE s q)
  else if (digR r || (decide (r = 46) && digR (rn s (q + 1)).1)) = true then .tok 2 (numE s (hexP s q) (q + 1))
  else if r = 39 then .of 3 (quotR s 39 q (q + 1) false)
  else if r = 34 then .of 4 (quotR s 34 q (q + 1) false)
  else if r = 96 then .of 4 (closedR s [96] q (q + 1))
  else if r = 59 then .tok 6 (q + 1)
  else if signN s q = 0 then .bad q else .tok 5 (q + signN s q)
abbrev Tk := Nat × ByteArray × Nat
def kws : List (List UInt8) := [[99, 97, 115, 101], [99, 104, 97, 110], [99, 111, 110, 115, 116], [100, 101, 102, 97, 117, 108, 116], [100, 101, 102, 101, 114], [101, 108, 115, 101], [102, 111, 114], [102, 117, 110, 99], [103, 111], [103, 111, 116, 111], [105, 102], [105, 109, 112, 111, 114, 116], [105, 110, 116, 101, 114, 102, 97, 99, 101], [109, 97, 112], [112, 97, 99, 107, 97, 103, 101], [114, 97, 110, 103, 101], [115, 101, 108, 101, 99, 116], [115, 116, 114, 117, 99, 116], [115, 119, 105, 116, 99, 104], [116, 121, 112, 101], [118, 97, 114]]
def joinsB (x : ByteArray) : Bool := kws.contains x.data.toList
def ends5 : List (List UInt8) := [[43, 43], [45, 45], [41], [93], [125]]
def endsB (t : Tk) : Bool := if t.1 = 2 ∨ t.1 = 3 ∨ t.1 = 4 then true else if t.1 = 1 then !joinsB t.2.1 else if t.1 = 5 then ends5.contains t.2.1.data.toList else false
def feedL (l : List Tk) (q : Nat) : List Tk := match l.getLast? with | some t => if endsB t = true then l ++ [(6, ⟨#[]⟩, q)] else l | none => l
def lexF (s : ByteArray) : Nat → Nat → List Tk → List Tk → List Tk × List Tk
  | 0, _, l, m => (feedL l s.size ++ [(0, ⟨#[]⟩, s.size)], m)
  | n + 1, q, l, m => if q < s.size then (match thing s q with
      | .bad f => (l ++ [(7, ⟨#[]⟩, f)], m)
      | .lf => lexF s n (q + 1) (feedL l q) m
      | .blank => lexF s n (q + 1) l m
      | .note e => lexF s n e (if hasLF s q e = true then feedL l q else l) (m ++ [(0, s.extract q e, q)])
      | .tok k e => lexF s n e (l ++ [(k, s.extract q e, q)]) m)
    else (feedL l s.size ++ [(0, ⟨#[]⟩, s.size)], m)
end Go.Proofs.YtejogobhnbjpdaaDoor
