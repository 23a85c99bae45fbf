/- Plain lemmas of words of 32 bits for package sha: no walk stands here. -/
import Derived.Laws.BitsAllLaws
import Derived.Lib.Strings
namespace Go.Proofs.YtdhaanaenklleaaDoor.S

def ror (x k : Nat) : Nat := (x / 2 ^ k) ||| (x * 2 ^ (32 - k) % 4294967296)
def sb1 (e : Nat) : Nat := ror e 6 ^^^ ror e 11 ^^^ ror e 25
def sb0 (a : Nat) : Nat := ror a 2 ^^^ ror a 13 ^^^ ror a 22
def ss0 (x : Nat) : Nat := ror x 7 ^^^ ror x 18 ^^^ (x / 8)
def ss1 (x : Nat) : Nat := ror x 17 ^^^ ror x 19 ^^^ (x / 1024)
def ch (e f g : Nat) : Nat := (e &&& f) ^^^ ((4294967295 - e) &&& g)
def maj (a b c : Nat) : Nat := (a &&& b) ^^^ (a &&& c) ^^^ (b &&& c)

theorem or32 {a b : Nat} (ha : a < 4294967296) (hb : b < 4294967296) : a ||| b < 4294967296 := Nat.or_lt_two_pow (n := 32) ha hb
theorem xor32 {a b : Nat} (ha : a < 4294967296) (hb : b < 4294967296) : a ^^^ b < 4294967296 := Nat.xor_lt_two_pow (n := 32) ha hb
theorem and32 {a b : Nat} (ha : a < 4294967296) : a &&& b < 4294967296 := Nat.lt_of_le_of_lt Nat.and_le_left ha
theorem ror32 {x : Nat} (k : Nat) (hx : x < 4294967296) : ror x k < 4294967296 := or32 (Nat.lt_of_le_of_lt (Nat.div_le_self _ _) hx) (Nat.mod_lt _ (by decide))
theorem sb132 {x : Nat} (hx : x < 4294967296) : sb1 x < 4294967296 := xor32 (xor32 (ror32 _ hx) (ror32 _ hx)) (ror32 _ hx)
theorem sb032 {x : Nat} (hx : x < 4294967296) : sb0 x < 4294967296 := xor32 (xor32 (ror32 _ hx) (ror32 _ hx)) (ror32 _ hx)
theorem ss032 {x : Nat} (hx : x < 4294967296) : ss0 x < 4294967296 := xor32 (xor32 (ror32 _ hx) (ror32 _ hx)) (Nat.lt_of_le_of_lt (Nat.div_le_self _ _) hx)
theorem ss132 {x : Nat} (hx : x < 4294967296) : ss1 x < 4294967296 := xor32 (xor32 (ror32 _ hx) (ror32 _ hx)) (Nat.lt_of_le_of_lt (Nat.div_le_self _ _) hx)
theorem wrap32 (n : Nat) : IntKind.u32.wrap (n : Int) = ((n % 4294967296 : Nat) : Int) := by rw [IntKind.wrap_u32']; omega
theorem wrap32_small (n : Nat) (h : n < 4294967296) : IntKind.u32.wrap (n : Int) = (n : Int) := by rw [wrap32, Nat.mod_eq_of_lt h]
end Go.Proofs.YtdhaanaenklleaaDoor.S
