/- Plain: the check sum, as numbers. -/
import Derived.Laws.BitsAllLaws
import Derived.Lib.Strings
namespace Go.Proofs.Ytcbddkncaeancaa

/-- One bit's step. -/
def st (x : Nat) : Nat := if x % 2 = 1 then (x / 2) ^^^ 2197175160 else x / 2

theorem xor_lt {a b : Nat} (ha : a < 4294967296) (hb : b < 4294967296) : a ^^^ b < 4294967296 := Nat.xor_lt_two_pow (n := 32) ha hb

theorem st_lt {x : Nat} (h : x < 4294967296) : st x < 4294967296 := by
  unfold st
  split
  · exact xor_lt (by omega) (by omega)
  · omega

theorem xor_cancel {a b c : Nat} (h : a ^^^ c = b ^^^ c) : a = b := by
  have := congrArg (· ^^^ c) h
  simpa [Nat.xor_assoc] using this

theorem high_half {x : Nat} (h : x < 4294967296) : (x / 2).testBit 31 = false := Nat.testBit_lt_two_pow (by omega)

theorem st_inj {x y : Nat} (hx : x < 4294967296) (hy : y < 4294967296) (h : st x = st y) : x = y := by
  have hp : (2197175160 : Nat).testBit 31 = true := by decide
  unfold st at h
  split at h <;> split at h
  · have := xor_cancel h; omega
  · have := congrArg (·.testBit 31) h
    simp [Nat.testBit_xor, high_half hx, high_half hy, hp] at this
  · have := congrArg (·.testBit 31) h
    simp [Nat.testBit_xor, high_half hx, high_half hy, hp] at this
  · omega

def stK : Nat → Nat → Nat | 0, x => x | k + 1, x => st (stK k x)
theorem stK_lt (k : Nat) {x : Nat} (h : x < 4294967296) : stK k x < 4294967296 := by
  induction k with
  | zero => exact h
  | succ k ih => exact st_lt ih
theorem stK_inj (k : Nat) {x y : Nat} (hx : x < 4294967296) (hy : y < 4294967296) (h : stK k x = stK k y) : x = y := by
  induction k with
  | zero => exact h
  | succ k ih => exact ih (st_inj (stK_lt k hx) (stK_lt k hy) h)

/-- A byte's step. -/
def by8 (c : Nat) (b : UInt8) : Nat := stK 8 (c ^^^ b.toNat)
theorem by8_lt {c : Nat} (b : UInt8) (h : c < 4294967296) : by8 c b < 4294967296 := stK_lt 8 (xor_lt h (by have := b.toNat_lt; omega))
def crcS (l : List UInt8) : Nat := l.foldl by8 4294967295
def crc (l : List UInt8) : Nat := crcS l ^^^ 4294967295

theorem fold_lt (l : List UInt8) : ∀ c, c < 4294967296 → l.foldl by8 c < 4294967296 := by
  induction l with
  | nil => intro c h; exact h
  | cons b r ih => intro c h; exact ih _ (by8_lt b h)
theorem crcS_lt (l : List UInt8) : crcS l < 4294967296 := fold_lt l _ (by omega)
theorem crc_lt (l : List UInt8) : crc l < 4294967296 := xor_lt (crcS_lt l) (by omega)

theorem fold_inj (l : List UInt8) : ∀ c d, c < 4294967296 → d < 4294967296 → l.foldl by8 c = l.foldl by8 d → c = d := by
  induction l with
  | nil => intro c d _ _ h; exact h
  | cons b r ih =>
    intro c d hc hd h
    have := ih _ _ (by8_lt b hc) (by8_lt b hd) h
    exact xor_cancel (stK_inj 8 (xor_lt hc (by have := b.toNat_lt; omega)) (xor_lt hd (by have := b.toNat_lt; omega)) this)

/-- One byte that is turned makes another check sum. -/
theorem crc_turned (l r : List UInt8) (a b : UInt8) (h : a ≠ b) : crc (l ++ a :: r) ≠ crc (l ++ b :: r) := by
  intro e
  have e1 := xor_cancel e
  unfold crcS at e1
  rw [List.foldl_append, List.foldl_append, List.foldl_cons, List.foldl_cons] at e1
  have hl := fold_lt l 4294967295 (by omega)
  have e2 := fold_inj r _ _ (by8_lt a hl) (by8_lt b hl) e1
  have e3 := stK_inj 8 (xor_lt hl (by have := a.toNat_lt; omega)) (xor_lt hl (by have := b.toNat_lt; omega)) e2
  rw [Nat.xor_comm, Nat.xor_comm _ b.toNat] at e3
  exact h (UInt8.toNat_inj.1 (xor_cancel e3))

theorem take_snoc (s : ByteArray) (k : Nat) (h : k < s.size) : s.data.toList.take (k + 1) = s.data.toList.take k ++ [s[k]] := by
  rw [List.take_succ_eq_append_getElem (by simpa using h)]; rfl
theorem crcS_take (s : ByteArray) (k : Nat) (h : k < s.size) : crcS (s.data.toList.take (k + 1)) = by8 (crcS (s.data.toList.take k)) s[k] := by
  rw [take_snoc s k h]; simp [crcS]
end Go.Proofs.Ytcbddkncaeancaa
