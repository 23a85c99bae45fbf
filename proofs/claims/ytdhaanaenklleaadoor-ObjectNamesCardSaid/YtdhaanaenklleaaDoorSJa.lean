/- Plain lemmas of numbers and lists of bytes for package code: no walk stands here. -/
import Derived.Laws.BitsAllLaws
import Derived.Lib.Strings
namespace Go.Proofs.YtdhaanaenklleaaDoor.S

/-- The number that bytes are, the highest first. -/
def be (l : List UInt8) : Nat := l.foldl (fun a b => 256 * a + b.toNat) 0

theorem be_snoc (l : List UInt8) (c : UInt8) : be (l ++ [c]) = 256 * be l + c.toNat := by simp [be]

theorem be_aux (l : List UInt8) : ∀ a : Nat, l.foldl (fun a b => 256 * a + b.toNat) a < (a + 1) * 256 ^ l.length := by
  induction l with
  | nil => intro a; simp
  | cons c l ih =>
    intro a
    have hc := c.toNat_lt
    have := ih (256 * a + c.toNat)
    simp only [List.foldl_cons, List.length_cons, Nat.pow_succ]
    refine Nat.lt_of_lt_of_le this ?_
    calc (256 * a + c.toNat + 1) * 256 ^ l.length ≤ ((a + 1) * 256) * 256 ^ l.length := Nat.mul_le_mul_right _ (by omega)
      _ = (a + 1) * (256 ^ l.length * 256) := by rw [Nat.mul_assoc, Nat.mul_comm 256]

theorem be_lt (l : List UInt8) : be l < 256 ^ l.length := by simpa [be] using be_aux l 0

theorem take_snoc (s : ByteArray) (k : Nat) (h : k < s.size) : s.data.toList.take (k + 1) = s.data.toList.take k ++ [s[k]] := by
  rw [List.take_succ_eq_append_getElem (by simpa using h)]; rfl

theorem be_take (s : ByteArray) (k : Nat) (h : k < s.size) : be (s.data.toList.take (k + 1)) = 256 * be (s.data.toList.take k) + s[k].toNat := by
  rw [take_snoc s k h, be_snoc]

theorem be_take_lt (s : ByteArray) (k : Nat) : be (s.data.toList.take k) < 256 ^ k := by
  refine Nat.lt_of_lt_of_le (be_lt _) (Nat.pow_le_pow_right (by omega) (by simp [List.length_take]; omega))

theorem be_mono (s : ByteArray) (k m : Nat) (h : k ≤ m) (hm : m ≤ s.size) : be (s.data.toList.take k) ≤ be (s.data.toList.take m) := by
  induction m with
  | zero => have : k = 0 := by omega
            subst this; exact Nat.le_refl _
  | succ m ih =>
    by_cases e : k = m + 1
    · subst e; exact Nat.le_refl _
    · have := ih (by omega) (by omega)
      rw [be_take s m (by omega)]
      omega

theorem wrap_i64_small (n : Nat) (h : n < 9223372036854775808) : IntKind.i64.wrap (n : Int) = (n : Int) := by
  have e : (n : Int) % 2 ^ 64 = n := Int.emod_eq_of_lt (by omega) (by omega)
  simp only [IntKind.wrap, IntKind.bits, IntKind.signed, e]
  rw [if_neg]
  simp
  omega

theorem wrap_u64_small (n : Nat) (h : n < 18446744073709551616) : IntKind.u64.wrap (n : Int) = (n : Int) := by
  have e : (n : Int) % 2 ^ 64 = n := Int.emod_eq_of_lt (by omega) (by omega)
  simp only [IntKind.wrap, IntKind.bits, IntKind.signed, e]
  simp

theorem or_byte_nat (a b : Nat) (h : b < 256) : (a * 256) ||| b = a * 256 + b := by
  have : a * 256 = a <<< 8 := by rw [Nat.shiftLeft_eq]
  rw [this, Nat.shiftLeft_add_eq_or_of_lt (by simpa using h)]

theorem or_byte (a : Nat) (b : UInt8) (h : a < 72057594037927936) :
    bits .or .u64 (IntKind.u64.wrap ((a : Int) * 256)) (IntKind.u64.wrap (b.toNat : Int)) = ((256 * a + b.toNat : Nat) : Int) := by
  have hb := b.toNat_lt
  rw [show ((a : Int) * 256) = ((a * 256 : Nat) : Int) by omega, wrap_u64_small _ (by omega), wrap_u64_small _ (by omega)]
  show IntKind.u64.wrap ((BitVec.ofInt 64 ((a * 256 : Nat) : Int) ||| BitVec.ofInt 64 ((b.toNat : Nat) : Int)).toNat : Int) = _
  rw [BitVec.toNat_or, ofInt_u64 _ (by omega), ofInt_u64 _ (by omega), or_byte_nat _ _ (by omega), wrap_u64_small _ (by omega)]
  omega

end Go.Proofs.YtdhaanaenklleaaDoor.S
