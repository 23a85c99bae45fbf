/- Plain: what holds on a platform. -/
import Derived.Test.YtpibehfmbmincaaGreatDoorXe
import Derived.Lib.Atoi
import Derived.Lib.ItoaNum
import Derived.Lib.ItoaMem
namespace Go.Proofs.YtpibehfmbmincaaGreatDoor
set_option linter.unusedVariables false
set_option linter.unusedSimpArgs false

/-- A platform: system, processor, cgo, level, tags. -/
structure Cf where
  os : ByteArray
  arch : ByteArray
  cgo : Bool
  lv : Int
  tags : List ByteArray
def alikeB (os : ByteArray) : ByteArray := if os = ⟨#[97, 110, 100, 114, 111, 105, 100]⟩ then ⟨#[108, 105, 110, 117, 120]⟩ else if os = ⟨#[105, 108, 108, 117, 109, 111, 115]⟩ then ⟨#[115, 111, 108, 97, 114, 105, 115]⟩ else if os = ⟨#[105, 111, 115]⟩ then ⟨#[100, 97, 114, 119, 105, 110]⟩ else ⟨#[]⟩
def go1L : List UInt8 := [103, 111, 49, 46]
/-- The number of a release's tag. -/
def lvOf (t : ByteArray) : Option Nat :=
  if Lib.hasPrefix t.data.toList go1L = true ∧ (t.data.toList.drop 4).length ≤ 4 then
    match Lib.atoi (t.data.toList.drop 4) with
    | some n => if Lib.itoa n = t.data.toList.drop 4 ∧ 0 ≤ n then some n.toNat else none
    | none => none
  else none
def levB (t : ByteArray) (lv : Int) : Bool := match lvOf t with | some n => decide ((n : Int) ≤ lv) | none => false
def onB (c : Cf) (t : ByteArray) : Bool :=
  if t = ⟨#[]⟩ then false
  else if t = c.os ∨ t = c.arch ∨ t = ⟨#[103, 99]⟩ then true
  else if t = ⟨#[117, 110, 105, 120]⟩ then inB unixL c.os
  else if t = ⟨#[99, 103, 111]⟩ then c.cgo
  else if t = alikeB c.os then true
  else levB t c.lv || inB c.tags t
theorem levB_mono {t : ByteArray} {a b : Int} (hab : a ≤ b) (h : levB t a = true) : levB t b = true := by
  unfold levB at h ⊢
  cases e : lvOf t with
  | none => rw [e] at h; cases h
  | some n =>
    rw [e] at h
    simp only [decide_eq_true_eq] at h ⊢
    omega
theorem onB_mono {c : Cf} {t : ByteArray} {b : Int} (hab : c.lv ≤ b) (h : onB c t = true) : onB { c with lv := b } t = true := by
  unfold onB at h ⊢
  simp only at h ⊢
  split at h
  · cases h
  rename_i h0
  rw [if_neg h0]
  split at h
  · rename_i h1; rw [if_pos h1]
  rename_i h1
  rw [if_neg h1]
  split at h
  · rename_i h2; rw [if_pos h2]; exact h
  rename_i h2
  rw [if_neg h2]
  split at h
  · rename_i h3; rw [if_pos h3]; exact h
  rename_i h3
  rw [if_neg h3]
  split at h
  · rename_i h4; rw [if_pos h4]
  rename_i h4
  rw [if_neg h4, Bool.or_eq_true]
  rw [Bool.or_eq_true] at h
  exact h.imp (levB_mono hab) id

/-! ### Numerals -/
theorem decFrom_app (l : List UInt8) (b : UInt8) (d : Nat) (hd : Lib.digitVal b = some d) : ∀ (acc n : Nat), Lib.decFrom acc l = some n → Lib.decFrom acc (l ++ [b]) = some (n * 10 + d) := by
  induction l with
  | nil =>
    intro acc n h
    simp only [Lib.decFrom, Option.some.injEq] at h
    subst h
    simp [Lib.decFrom, hd]
  | cons a t ih =>
    intro acc n h
    simp only [Lib.decFrom, List.cons_append] at h ⊢
    cases ha : Lib.digitVal a with
    | none => rw [ha] at h; cases h
    | some e => rw [ha] at h; simp only at h ⊢; exact ih _ n h
theorem digit_is {d : Nat} (h : d < 10) : Lib.digitVal (UInt8.ofNat (48 + d)) = some d ∧ UInt8.ofNat (48 + d) ≠ 45 ∧ UInt8.ofNat (48 + d) ≠ 43 := by
  have : ∀ k : Fin 10, Lib.digitVal (UInt8.ofNat (48 + k.val)) = some k.val ∧ UInt8.ofNat (48 + k.val) ≠ 45 ∧ UInt8.ofNat (48 + k.val) ≠ 43 := by decide
  exact this ⟨d, h⟩
theorem dec_step (u : Nat) (h : ¬ u < 10) : Lib.decDigits u = Lib.decDigits (u / 10) ++ [UInt8.ofNat (48 + u % 10)] := by
  rw [Lib.decDigits, dif_neg h]
theorem dec_val : ∀ (u : Nat), Lib.decFrom 0 (Lib.decDigits u) = some u := by
  intro u
  induction u using Nat.strongRecOn with
  | _ u ih =>
    by_cases h : u < 10
    · rw [Lib.decDigits_one h]
      have e := (digit_is h).1
      generalize UInt8.ofNat (48 + u) = b at e
      show (match Lib.digitVal b with | some d => Lib.decFrom (0 * 10 + d) [] | none => none) = some u
      rw [e]
      simp [Lib.decFrom]
    · rw [dec_step u h, decFrom_app _ _ (u % 10) (digit_is (Nat.mod_lt _ (by decide))).1 0 (u / 10) (ih _ (by omega))]
      congr 1; omega
theorem dec_head : ∀ (u : Nat), ∃ b r, Lib.decDigits u = b :: r ∧ b ≠ 45 ∧ b ≠ 43 := by
  intro u
  induction u using Nat.strongRecOn with
  | _ u ih =>
    by_cases h : u < 10
    · rw [Lib.decDigits_one h]; exact ⟨_, _, rfl, (digit_is h).2⟩
    · rw [dec_step u h]
      obtain ⟨b, r, e, h1⟩ := ih (u / 10) (by omega)
      rw [e]; exact ⟨b, _, rfl, h1⟩
theorem dec_atoi (u : Nat) : Lib.atoi (Lib.decDigits u) = some (u : Int) := by
  obtain ⟨b, r, e, h1, h2⟩ := dec_head u
  have h3 := dec_val u
  rw [e] at h3 ⊢
  have e1 : (b == 45) = false := beq_eq_false_iff_ne.2 h1
  have e2 : (b == 43) = false := beq_eq_false_iff_ne.2 h2
  have e3 : Lib.decNat (b :: r) = some u := by
    unfold Lib.decNat
    rw [if_neg (by simp), h3]
  unfold Lib.atoi
  simp only [e1, e2, e3, Bool.false_eq_true, reduceIte]
  rfl
theorem dec_len : ∀ (k u : Nat), u < 10 ^ (k + 1) → (Lib.decDigits u).length ≤ k + 1 := by
  intro k
  induction k with
  | zero => intro u h; rw [Lib.decDigits_one (by simpa using h)]; simp
  | succ k ih =>
    intro u h
    by_cases h1 : u < 10
    · rw [Lib.decDigits_one h1]; simp
    · rw [dec_step u h1, List.length_append]
      have := ih (u / 10) (by rw [Nat.pow_succ] at h; omega)
      simp; omega
def relT (n : Nat) : ByteArray := mkB (go1L ++ Lib.decDigits n)
theorem rel_lv {n : Nat} (h : n ≤ 9999) : lvOf (relT n) = some n := by
  have hl := dec_len 3 n (by omega)
  have hd : (relT n).data.toList.drop 4 = Lib.decDigits n := by
    unfold relT; rw [mkB_toList]; rfl
  have hp : Lib.hasPrefix (relT n).data.toList go1L = true := by
    unfold relT
    rw [mkB_toList]
    unfold Lib.hasPrefix
    rw [List.isPrefixOf_iff_prefix]
    exact List.prefix_append _ _
  unfold lvOf
  rw [hd, if_pos ⟨hp, hl⟩, dec_atoi]
  simp only
  rw [if_pos ⟨Lib.itoa_nonneg n, by omega⟩]
  rfl
theorem rel_no {n : Nat} {l : List UInt8} (h : l.take 4 ≠ go1L) : relT n ≠ mkB l := by
  intro e
  have := congrArg (fun x : ByteArray => x.data.toList.take 4) e
  simp only [relT, mkB_toList] at this
  exact h this.symm
/-- A release's tag holds from its level on. -/
theorem on_rel (c : Cf) {n : Nat} (h : n ≤ 9999) : onB c (relT n) = (decide ((n : Int) ≤ c.lv) || decide (relT n = c.os) || decide (relT n = c.arch) || inB c.tags (relT n)) := by
  have h0 : relT n ≠ ⟨#[]⟩ := rel_no (l := []) (by decide)
  have h1 : relT n ≠ ⟨#[103, 99]⟩ := rel_no (l := [103, 99]) (by decide)
  have h2 : relT n ≠ ⟨#[117, 110, 105, 120]⟩ := rel_no (l := [117, 110, 105, 120]) (by decide)
  have h3 : relT n ≠ ⟨#[99, 103, 111]⟩ := rel_no (l := [99, 103, 111]) (by decide)
  have h4 : relT n ≠ alikeB c.os := by
    unfold alikeB
    split
    · exact rel_no (l := [108, 105, 110, 117, 120]) (by decide)
    · split
      · exact rel_no (l := [115, 111, 108, 97, 114, 105, 115]) (by decide)
      · split
        · exact rel_no (l := [100, 97, 114, 119, 105, 110]) (by decide)
        · exact h0
  have hlv : levB (relT n) c.lv = decide ((n : Int) ≤ c.lv) := by unfold levB; rw [rel_lv h]
  unfold onB
  rw [if_neg h0]
  by_cases ho : relT n = c.os
  · rw [if_pos (.inl ho), decide_eq_true ho]; simp
  by_cases ha : relT n = c.arch
  · rw [if_pos (.inr (.inl ha)), decide_eq_true ha]; simp
  rw [if_neg (by simp [ho, ha, h1]), if_neg h2, if_neg h3, if_neg h4, hlv, decide_eq_false ho, decide_eq_false ha]
  simp
/-- What of a number is written already, and what isn't. -/
def Dig (n x : Nat) (s : ByteArray) : Prop := (x = 0 ∧ s.data.toList = Lib.decDigits n) ∨ (0 < x ∧ Lib.decDigits x ++ s.data.toList = Lib.decDigits n)
theorem Dig.start {n : Nat} (h : 0 < n) : Dig n n ⟨#[]⟩ := .inr ⟨h, by simp⟩
theorem Dig.step {n x : Nat} {s : ByteArray} (H : Dig n x s) (h : 0 < x) : Dig n (x / 10) (mkB [UInt8.ofNat (48 + x % 10)] ++ s) := by
  rcases H with ⟨h0, _⟩ | ⟨_, h1⟩
  · omega
  by_cases hx : x < 10
  · refine .inl ⟨by omega, ?_⟩
    rw [ba_append, mkB_toList, ← h1, Lib.decDigits_one hx, Nat.mod_eq_of_lt hx]
  · refine .inr ⟨by omega, ?_⟩
    rw [ba_append, mkB_toList, ← List.append_assoc, ← dec_step x hx, h1]
theorem Dig.done {n : Nat} {s : ByteArray} (H : Dig n 0 s) : mkB go1L ++ s = relT n := by
  rcases H with ⟨_, h⟩ | ⟨h, _⟩
  · unfold relT
    apply ba_ext
    rw [ba_append, mkB_toList, mkB_toList, h]
  · omega
/-- Whether a platform is more than is played. -/
def bytesS : List ByteArray → Nat | [] => 0 | x :: r => x.size + bytesS r
def greatC (c : Cf) : Bool := decide (512 < c.os.size + c.arch.size + bytesS c.tags) || decide (20 < c.tags.length)
end Go.Proofs.YtpibehfmbmincaaGreatDoor
