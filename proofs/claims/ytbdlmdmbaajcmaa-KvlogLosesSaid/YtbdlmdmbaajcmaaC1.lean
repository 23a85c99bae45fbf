/- Plain lemmas of numbers and lists of bytes for package code: no walk stands here; Walks over the numbers of package code; Walks: a number's bytes; Plain: a text is split; Walks: the document's number, a part, two lists held against each other; Walks: lists of strings: whether two are the same; whether one is great; Walks: texts are joined. -/
import Derived.Laws.BitsAllLaws
import Derived.Lib.Strings
import Derived.Test.YtbdlmdmbaajcmaaProg
import Derived.WalkKit
import Derived.ProofKit
import Derived.OpenShut
import Derived.WalkSpells
import Derived.WalkLawsBesides
import Derived.Below
import Derived.Deep.DeepFit
import Derived.RegionTactic
import Derived.ChangeAlike
import Derived.Deep.QuietTactic
import Derived.BigQuiet
import Derived.Test.YtbdlmdmbaajcmaaKt
import Derived.Lib.SlBytesRow
import Derived.Test.YtbdlmdmbaajcmaaSh
namespace Go.Proofs.Ytbdlmdmbaajcmaa.C

/-- The number that bytes are, the highest first. -/
def be (l : List UInt8) : Nat := l.foldl (fun a b => 256 * a + b.toNat) 0

theorem be_snoc (l : List UInt8) (c : UInt8) : be (l ++ [c]) = 256 * be l + c.toNat := by simp [be]

theorem be_aux (l : List UInt8) : ∀ a : Nat, l.foldl (fun a b => 256 * a + b.toNat) a < (a + 1) * 256 ^ l.length := by
  induction l with
  | nil => intro a; simp
  | cons c l ih =>
    intro a
    have hc := c.toNat_lt
    have := ih (256 * a + c.toNat)
    simp only [List.foldl_cons, List.length_cons, Nat.pow_succ]
    refine Nat.lt_of_lt_of_le this ?_
    calc (256 * a + c.toNat + 1) * 256 ^ l.length ≤ ((a + 1) * 256) * 256 ^ l.length := Nat.mul_le_mul_right _ (by omega)
      _ = (a + 1) * (256 ^ l.length * 256) := by rw [Nat.mul_assoc, Nat.mul_comm 256]

theorem be_lt (l : List UInt8) : be l < 256 ^ l.length := by simpa [be] using be_aux l 0

theorem take_snoc (s : ByteArray) (k : Nat) (h : k < s.size) : s.data.toList.take (k + 1) = s.data.toList.take k ++ [s[k]] := by
  rw [List.take_succ_eq_append_getElem (by simpa using h)]; rfl

theorem be_take (s : ByteArray) (k : Nat) (h : k < s.size) : be (s.data.toList.take (k + 1)) = 256 * be (s.data.toList.take k) + s[k].toNat := by
  rw [take_snoc s k h, be_snoc]

theorem be_take_lt (s : ByteArray) (k : Nat) : be (s.data.toList.take k) < 256 ^ k := by
  refine Nat.lt_of_lt_of_le (be_lt _) (Nat.pow_le_pow_right (by omega) (by simp [List.length_take]; omega))

theorem be_mono (s : ByteArray) (k m : Nat) (h : k ≤ m) (hm : m ≤ s.size) : be (s.data.toList.take k) ≤ be (s.data.toList.take m) := by
  induction m with
  | zero => have : k = 0 := by omega
            subst this; exact Nat.le_refl _
  | succ m ih =>
    by_cases e : k = m + 1
    · subst e; exact Nat.le_refl _
    · have := ih (by omega) (by omega)
      rw [be_take s m (by omega)]
      omega

theorem wrap_i64_small (n : Nat) (h : n < 9223372036854775808) : IntKind.i64.wrap (n : Int) = (n : Int) := by
  have e : (n : Int) % 2 ^ 64 = n := Int.emod_eq_of_lt (by omega) (by omega)
  simp only [IntKind.wrap, IntKind.bits, IntKind.signed, e]
  rw [if_neg]
  simp
  omega

theorem wrap_u64_small (n : Nat) (h : n < 18446744073709551616) : IntKind.u64.wrap (n : Int) = (n : Int) := by
  have e : (n : Int) % 2 ^ 64 = n := Int.emod_eq_of_lt (by omega) (by omega)
  simp only [IntKind.wrap, IntKind.bits, IntKind.signed, e]
  simp

theorem or_byte_nat (a b : Nat) (h : b < 256) : (a * 256) ||| b = a * 256 + b := by
  have : a * 256 = a <<< 8 := by rw [Nat.shiftLeft_eq]
  rw [this, Nat.shiftLeft_add_eq_or_of_lt (by simpa using h)]

theorem or_byte (a : Nat) (b : UInt8) (h : a < 72057594037927936) :
    bits .or .u64 (IntKind.u64.wrap ((a : Int) * 256)) (IntKind.u64.wrap (b.toNat : Int)) = ((256 * a + b.toNat : Nat) : Int) := by
  have hb := b.toNat_lt
  rw [show ((a : Int) * 256) = ((a * 256 : Nat) : Int) by omega, wrap_u64_small _ (by omega), wrap_u64_small _ (by omega)]
  show IntKind.u64.wrap ((BitVec.ofInt 64 ((a * 256 : Nat) : Int) ||| BitVec.ofInt 64 ((b.toNat : Nat) : Int)).toNat : Int) = _
  rw [BitVec.toNat_or, ofInt_u64 _ (by omega), ofInt_u64 _ (by omega), or_byte_nat _ _ (by omega), wrap_u64_small _ (by omega)]
  omega

end Go.Proofs.Ytbdlmdmbaajcmaa.C
namespace Go.Proofs.Ytbdlmdmbaajcmaa.C
open Go.ChangeShapes Go.WideShapes Go.ChangeAt Go.RowKit

set_option maxRecDepth 100000 in
set_option maxHeartbeats 400000 in
theorem readNum_short (s : ByteArray) (w : World) (h : s.size < 8) :
    Calls Try.prog 77 #[.string s] w fun e w' => e = .returned (.tuple #[.int .i64 0, .bool false]) ∧ w = w' := by
  go_enter Try.func77, Try.ntmps77
  go_wp2
  go_ret2
  exact ⟨rfl, rfl⟩

set_option maxRecDepth 100000 in
set_option maxHeartbeats 400000 in
theorem readNum_long (s : ByteArray) (w : World) (h : 8 ≤ s.size) (hs : s.size ≤ 9223372036854775807) :
    Calls Try.prog 77 #[.string s] w fun e w' => e = .returned (.tuple #[.int .i64 (wrap64 (be (s.data.toList.take 8))), .bool true]) ∧ w = w' := by
  go_enter Try.func77, Try.ntmps77
  go_wp2
  go_loop [4, 5, 9] (fun n _ i => ∃ k : Nat, k ≤ 8 ∧ i = .int .i64 k ∧ n = .int .u64 (be (s.data.toList.take k))) (fun _ _ i => 8 - (intOf i).toNat)
  case atStart => exact ⟨0, by omega, rfl, rfl⟩
  case round =>
    obtain ⟨k, hk, rfl, rfl⟩ := hrel
    by_cases hlt : k < 8
    · have hi : (k : Int) < s.size := by omega
      go_wp2
      refine ⟨⟨k + 1, by omega, by go_num, ?_⟩, by simp [intOf]; omega⟩
      have hb := be_take_lt s k
      have hp : 256 ^ k ≤ 256 ^ 7 := Nat.pow_le_pow_right (by omega) (by omega)
      rw [or_byte _ _ (by omega), be_take s k (by omega)]
    · obtain rfl : k = 8 := by omega
      go_wp2
      go_ret2
      exact ⟨rfl, rfl⟩

set_option maxRecDepth 100000 in
set_option maxHeartbeats 400000 in
theorem number_short (s : ByteArray) (w : World) (h : s.size < 8) :
    Calls Try.prog 74 #[.string s] w fun e w' => e = .returned (.tuple #[.int .i64 0, .bool false]) ∧ w = w' := by
  go_enter Try.func74, Try.ntmps74
  go_wp2
  go_ret2
  exact ⟨rfl, rfl⟩

set_option maxRecDepth 100000 in
set_option maxHeartbeats 400000 in
theorem number_yes (s : ByteArray) (w : World) (h : 8 ≤ s.size) (hs : s.size ≤ 9223372036854775807) (hb : be (s.data.toList.take 8) ≤ 1099511627776) :
    Calls Try.prog 74 #[.string s] w fun e w' => e = .returned (.tuple #[.int .i64 (be (s.data.toList.take 8)), .bool true]) ∧ w = w' := by
  go_enter Try.func74, Try.ntmps74
  go_wp2
  go_loop [4, 5] (fun n i => ∃ k : Nat, k ≤ 8 ∧ i = .int .i64 k ∧ n = .int .i64 (be (s.data.toList.take k))) (fun _ i => 8 - (intOf i).toNat)
  case atStart => exact ⟨0, by omega, rfl, rfl⟩
  case round =>
    obtain ⟨k, hk, rfl, rfl⟩ := hrel
    have hm := be_mono s k 8 hk h
    by_cases hlt : k < 8
    · have hi : (k : Int) < s.size := by omega
      have hn : ¬ (1099511627776 : Int) < be (s.data.toList.take k) := by omega
      have hks : k < s.size := by omega
      have hc : s[k].toNat < 256 := s[k].toNat_lt
      go_wp2
      refine ⟨⟨k + 1, by omega, by go_num, ?_⟩, by simp [intOf]; omega⟩
      rw [be_take s k (by omega)]
      go_num
    · obtain rfl : k = 8 := by omega
      have hd : decide ((be (s.data.toList.take 8) : Int) ≤ 1099511627776) = true := by simp; omega
      go_wp2
      go_ret2
      exact ⟨rfl, rfl⟩

/-- It is no number: some integer, false. -/
def NoNum (w : World) (e : Ending) (w' : World) : Prop := (∃ n : Int, e = .returned (.tuple #[.int .i64 n, .bool false])) ∧ w = w'

set_option maxRecDepth 100000 in
set_option maxHeartbeats 400000 in
theorem number_no (s : ByteArray) (w : World) (h : 8 ≤ s.size) (hs : s.size ≤ 9223372036854775807) (hb : 1099511627776 < be (s.data.toList.take 8)) :
    Calls Try.prog 74 #[.string s] w (NoNum w) := by
  go_enter Try.func74, Try.ntmps74
  go_wp2
  go_loop [4, 5] (fun n i => ∃ k : Nat, k ≤ 8 ∧ i = .int .i64 k ∧ n = .int .i64 (be (s.data.toList.take k))) (fun _ i => 8 - (intOf i).toNat)
  case atStart => exact ⟨0, by omega, rfl, rfl⟩
  case round =>
    obtain ⟨k, hk, rfl, rfl⟩ := hrel
    by_cases hlt : k < 8
    · have hi : (k : Int) < s.size := by omega
      by_cases hn : (1099511627776 : Int) < be (s.data.toList.take k)
      · go_wp2
        go_ret2
        exact ⟨⟨0, rfl⟩, rfl⟩
      · have hks : k < s.size := by omega
        have hc : s[k].toNat < 256 := s[k].toNat_lt
        go_wp2
        refine ⟨⟨k + 1, by omega, by go_num, ?_⟩, by simp [intOf]; omega⟩
        rw [be_take s k (by omega)]
        go_num
    · obtain rfl : k = 8 := by omega
      have hd : decide ((be (s.data.toList.take 8) : Int) ≤ 1099511627776) = false := by simp; omega
      go_wp2
      go_ret2
      exact ⟨⟨_, rfl⟩, rfl⟩
end Go.Proofs.Ytbdlmdmbaajcmaa.C
namespace Go.Proofs.Ytbdlmdmbaajcmaa.C
set_option linter.unusedVariables false
open Go.ChangeShapes Go.WideShapes Go.ChangeAt Go.RowKit

def dig (x k i : Nat) : Value := Value.int .u8 (if i < k then ((x / 256 ^ (7 - i) % 256 : Nat) : Int) else 0)
def numCells (x k : Nat) : Array Value := #[dig x k 0, dig x k 1, dig x k 2, dig x k 3, dig x k 4, dig x k 5, dig x k 6, dig x k 7]
def numI (x : Nat) : List Int := [7, 6, 5, 4, 3, 2, 1, 0].map fun j => ((x / 256 ^ j % 256 : Nat) : Int)
def numB (x : Nat) : ByteArray := strOfNums (numI x)

theorem numCells_get (x k : Nat) (hk : k < 8) : (numCells x k)[k]? = some (.int .u8 0) := by
  rcases (by omega : k = 0 ∨ k = 1 ∨ k = 2 ∨ k = 3 ∨ k = 4 ∨ k = 5 ∨ k = 6 ∨ k = 7) with h | h | h | h | h | h | h | h <;> subst h <;> simp [numCells, dig]

theorem numCells_set (x k : Nat) (hk : k < 8) : (numCells x k).setIfInBounds k (.int .u8 ((x / 256 ^ (7 - k) % 256 : Nat) : Int)) = numCells x (k + 1) := by
  rcases (by omega : k = 0 ∨ k = 1 ∨ k = 2 ∨ k = 3 ∨ k = 4 ∨ k = 5 ∨ k = 6 ∨ k = 7) with h | h | h | h | h | h | h | h <;> subst h <;> simp [numCells, dig]

theorem numCells_all (x i : Nat) (hi : i < 8) : (numCells x 8)[i]? = some (.int .u8 ((numI x).getD i 0)) := by
  rcases (by omega : i = 0 ∨ i = 1 ∨ i = 2 ∨ i = 3 ∨ i = 4 ∨ i = 5 ∨ i = 6 ∨ i = 7) with h | h | h | h | h | h | h | h <;> subst h <;> simp [numCells, dig, numI]

theorem wrap_u64_nat (n : Int) : IntKind.u64.wrap n = ((n % 18446744073709551616).toNat : Int) := by
  have : IntKind.u64.wrap n = n % 18446744073709551616 := by simp [IntKind.wrap, IntKind.bits, IntKind.signed]
  rw [this]; omega

theorem shr_pow (n : Int) (k : Nat) (hk : k < 8) : IntKind.u64.wrap n / 2 ^ (8 * (7 - k)) % 256 = (((n % 18446744073709551616).toNat / 256 ^ (7 - k) % 256 : Nat) : Int) := by
  rw [wrap_u64_nat]
  have : (2 : Int) ^ (8 * (7 - k)) = ((256 ^ (7 - k) : Nat) : Int) := by
    rw [Nat.pow_mul 2 8 (7-k) |> fun h => (by rw [show (256:Nat) = 2^8 from rfl, ← h] : (256:Nat)^(7-k) = 2^(8*(7-k)))]
    simp
  rw [this]
  omega

set_option maxRecDepth 100000 in
set_option maxHeartbeats 400000 in
theorem num_any (n : Int) (w : World) :
    Calls Try.prog 83 #[.int .i64 n] w fun e w' => e = .returned (.string (numB (n % 18446744073709551616).toNat)) ∧ Below w.heap.size w w' := by
  obtain ⟨x, hx⟩ : ∃ x, x = (n % 18446744073709551616).toNat := ⟨_, rfl⟩
  rw [← hx]
  have Hx := Lib.hid hx
  clear hx
  have hconv : ∀ (wr : World), wr.heap[w.heap.size]? = some (.cells (numCells x 8) 138 (0, 0)) → (convert 40 9 (.slice (some ⟨w.heap.size, 0, none⟩) 8 8)).run Try.prog wr = .ok (.string (numB x)) wr := fun wr hb =>
    run_convert_bytes_arg wr 40 5 Try.underlying40 Try.underlying5 _ 0 8 8 (numI x) (by simp [numI]) (fun i hi => by rw [block_cell hb, Nat.zero_add, numCells_all x i hi]) 9 Try.underlying9
  go_enter Try.func83, Try.ntmps83
  go_wp2
  go_loopw [4, 5] (fun _ i wr => ∃ k : Nat, k ≤ 8 ∧ i = .int .i64 k ∧ wr.heap[w.heap.size]? = some (.cells (numCells x k) 138 (0, 0)) ∧ Below w.heap.size w wr) (fun _ i _ => 8 - (intOf i).toNat)
  case atStart => exact ⟨0, by omega, rfl, heap_alloc_new w _, (Below.refl _ _).alloc (Nat.le_refl _) _⟩
  case round =>
    obtain ⟨k, hk, rfl, hb, hB⟩ := hrel
    by_cases hlt : k < 8
    · have hcell : wr.cell? ⟨w.heap.size, k, none⟩ = some (.int .u8 0) := by rw [block_cell hb, numCells_get x k hlt]
      have hfz : wr.frozen? ⟨w.heap.size, k, none⟩ = false := block_free hb k
      have HB := Lib.hid hb
      clear hb
      go_wp2
      refine ⟨⟨k + 1, by omega, by go_num, ?_, hB.setCell (Nat.le_refl _) _⟩, by simp [intOf]; omega⟩
      rw [block_set HB.out, shr_pow n k hlt, ← Hx.out, numCells_set x k hlt]
    · obtain rfl : k = 8 := by omega
      have hcv := hconv wr hb
      clear hconv hb
      go_wp2
      go_ret
      exact ⟨rfl, hB⟩
end Go.Proofs.Ytbdlmdmbaajcmaa.C
namespace Go.Proofs.Ytbdlmdmbaajcmaa.C

/-- How many bytes a part's number says. -/
def len8 (s : ByteArray) : Nat := be (s.data.toList.take 8)
/-- One part off a text's beginning, and what stands behind it. -/
def cutB (s : ByteArray) : Option (ByteArray × ByteArray) := if s.size < 8 then none else if s.size < len8 s + 8 then none else some (s.extract 8 (8 + len8 s), s.extract (8 + len8 s) s.size)
def cutsB : Nat → ByteArray → Option (List ByteArray × ByteArray)
  | 0, s => some ([], s)
  | n + 1, s => match cutB s with
    | none => none
    | some (p, r) => match cutsB n r with
      | none => none
      | some (ps, t) => some (p :: ps, t)
/-- Nothing may be left. -/
def ended : Option (List ByteArray × ByteArray) → Option (List ByteArray)
  | none => none
  | some (ps, t) => if t.size = 0 then some ps else none
def splitB (s : ByteArray) : Option (List ByteArray) := if s.size < 8 then none else ended (cutsB (len8 s) (s.extract 8 s.size))

theorem cutB_size {s p r : ByteArray} (h : cutB s = some (p, r)) : r.size + p.size + 8 = s.size := by
  unfold cutB at h
  split at h
  · cases h
  · split at h
    · cases h
    · cases h
      simp [ByteArray.size_extract]
      omega

theorem cutsB_size : ∀ (n : Nat) (s : ByteArray) (ps : List ByteArray) (t : ByteArray), cutsB n s = some (ps, t) → 8 * n + t.size ≤ s.size := by
  intro n
  induction n with
  | zero => intro s ps t h; simp [cutsB] at h; rw [h.2]; omega
  | succ n ih =>
    intro s ps t h
    unfold cutsB at h
    cases hc : cutB s with
    | none => simp [hc] at h
    | some pr =>
      obtain ⟨p, r⟩ := pr
      cases hk : cutsB n r with
      | none => simp [hc, hk] at h
      | some x =>
        obtain ⟨qs, u⟩ := x
        simp [hc, hk] at h
        have := ih r qs u hk
        have := cutB_size hc
        rw [← h.2]
        omega

/-- Behind j parts 'acc' stands 'rest', of which so many are wanted still. -/
def Mid (n : Nat) (s0 : ByteArray) (m : Nat) (acc : List ByteArray) (rest : ByteArray) : Prop :=
  cutsB n s0 = (cutsB m rest).map fun x => (acc ++ x.1, x.2)

theorem Mid.start (n : Nat) (s : ByteArray) : Mid n s n [] s := by
  unfold Mid
  cases cutsB n s <;> simp

theorem Mid.step {n m : Nat} {s0 rest p r : ByteArray} {acc : List ByteArray} (h : Mid n s0 (m + 1) acc rest) (hc : cutB rest = some (p, r)) : Mid n s0 m (acc ++ [p]) r := by
  unfold Mid at h ⊢
  rw [h]
  conv => lhs; rw [cutsB]
  rw [hc]
  cases hm : cutsB m r with
  | none => simp [hm]
  | some x => obtain ⟨ps, t⟩ := x; simp [hm]

theorem Mid.stop {n m : Nat} {s0 rest : ByteArray} {acc : List ByteArray} (h : Mid n s0 (m + 1) acc rest) (hc : cutB rest = none) : cutsB n s0 = none := by
  unfold Mid at h
  rw [h]
  conv => lhs; rw [cutsB]
  rw [hc]
  rfl

theorem Mid.done {n : Nat} {s0 rest : ByteArray} {acc : List ByteArray} (h : Mid n s0 0 acc rest) : cutsB n s0 = some (acc, rest) := by
  unfold Mid at h
  rw [h]
  simp [cutsB]

theorem splitB_many {s : ByteArray} (h : s.size / 8 < len8 s) : splitB s = none := by
  unfold splitB
  split
  · rfl
  · cases hc : cutsB (len8 s) (s.extract 8 s.size) with
    | none => rfl
    | some x =>
      obtain ⟨ps, t⟩ := x
      have := cutsB_size _ _ _ _ hc
      simp [ByteArray.size_extract] at this
      omega
end Go.Proofs.Ytbdlmdmbaajcmaa.C
namespace Go.Proofs.Ytbdlmdmbaajcmaa.C
open Go.ChangeShapes Go.WideShapes Go.ChangeAt Go.RowKit

def tailI (x k : Nat) : List Int := (List.range k).reverse.map fun j => ((x / 256 ^ j % 256 : Nat) : Int)
theorem tailI_succ (x k : Nat) : tailI x (k + 1) = ((x / 256 ^ k % 256 : Nat) : Int) :: tailI x k := by simp [tailI, List.range_succ]
theorem tailI_all (x : Nat) : tailI x 8 = numI x := by rfl
theorem tailI_len (x k : Nat) : (tailI x k).length = k := by simp [tailI]

theorem nums_append (a b : List Int) : strOfNums a ++ strOfNums b = strOfNums (a ++ b) := by
  apply ByteArray.ext
  apply Array.toList_inj.1
  simp [strOfNums]

set_option maxRecDepth 100000 in
set_option maxHeartbeats 400000 in
theorem refNum_any (n : Int) (w : World) :
    Calls Try.prog 73 #[.int .i64 n] w fun e w' => e = .returned (.string (numB (n % 18446744073709551616).toNat)) ∧ Below w.heap.size w w' := by
  obtain ⟨x, hx⟩ : ∃ x, x = (n % 18446744073709551616).toNat := ⟨_, rfl⟩
  have hw : IntKind.u64.wrap n = (x : Int) := by rw [wrap_u64_nat, hx]
  have hx2 : x < 18446744073709551616 := by omega
  rw [← hx]
  clear hx
  go_enter Try.func73, Try.ntmps73
  go_wp2
  go_loopw [3, 4, 5] (fun xv s i wr => ∃ k : Nat, k ≤ 8 ∧ i = .int .i64 k ∧ xv = .int .u64 ((x / 256 ^ k : Nat) : Int) ∧ s = .string (strOfNums (tailI x k)) ∧ Below w.heap.size w wr) (fun _ _ i _ => 8 - (intOf i).toNat)
  case atStart => exact ⟨0, by omega, rfl, by simp, rfl, Below.refl _ _⟩
  case round =>
    obtain ⟨k, hk, rfl, rfl, rfl, hB⟩ := hrel
    by_cases hlt : k < 8
    · obtain ⟨q, hq⟩ : ∃ q, q = x / 256 ^ k := ⟨_, rfl⟩
      rw [← hq]
      have Hq := Lib.hid hq
      clear hq
      obtain ⟨t, ht⟩ : ∃ t, t = strOfNums (tailI x k) := ⟨_, rfl⟩
      have hts : t.size ≤ 8 := by rw [ht, strOfNums_size, tailI_len]; omega
      rw [← ht]
      have Ht := Lib.hid ht
      clear ht
      obtain ⟨c, hc⟩ : ∃ c, c = strOfNums [(q : Int) % 256] := ⟨_, rfl⟩
      have hcs : c.size ≤ 1 := by rw [hc, strOfNums_size]; simp
      have hcv : (convert 40 9 (.slice (some ⟨wr.heap.size, 0, none⟩) 1 1)).run Try.prog (wr.alloc (.cells #[.int .u8 ((q : Int) % 256)] 5)) = .ok (.string c) (wr.alloc (.cells #[.int .u8 ((q : Int) % 256)] 5)) := by
        rw [hc]
        exact run_convert_bytes_arg _ 40 5 Try.underlying40 Try.underlying5 _ 0 1 1 [(q : Int) % 256] rfl (fun i hi => by
          obtain rfl : i = 0 := by omega
          rw [Nat.add_zero, World.cell?_alloc_at _ _ _ _ rfl]; rfl) 9 Try.underlying9
      have Hc := Lib.hid hc
      clear hc
      go_wp2
      refine ⟨⟨k + 1, by omega, by go_num, ?_, ?_, hB.alloc hB.size _⟩, by simp [intOf]; omega⟩
      · have hq2 : q ≤ x := by rw [Hq.out]; exact Nat.div_le_self _ _
        rw [Nat.pow_succ, ← Nat.div_div_eq_div_mul, ← Hq.out, show (q : Int) / 256 = ((q / 256 : Nat) : Int) by omega, wrap_u64_small _ (by omega)]
      · rw [Hc.out, Ht.out, Hq.out, tailI_succ, nums_append]; rfl
    · obtain rfl : k = 8 := by omega
      go_wp2
      go_ret
      exact ⟨rfl, hB⟩

set_option maxRecDepth 100000 in
set_option maxHeartbeats 400000 in
theorem cut_short (s : ByteArray) (w : World) (h : s.size < 8) :
    Calls Try.prog 78 #[.string s] w fun e w' => e = .returned (.tuple #[.string ⟨#[]⟩, .string ⟨#[]⟩, .bool false]) ∧ w = w' := by
  go_enter Try.func78, Try.ntmps78
  go_wp2_with fail
  refine (readNum_short s _ h).mono ?_
  rintro e w' ⟨rfl, rfl⟩
  go_wp2
  go_ret3
  exact ⟨rfl, rfl⟩

set_option maxRecDepth 100000 in
set_option maxHeartbeats 400000 in
theorem cut_no (s : ByteArray) (w : World) (h : 8 ≤ s.size) (hs : s.size ≤ 1099511627776) (hn : s.size < len8 s + 8) :
    Calls Try.prog 78 #[.string s] w fun e w' => e = .returned (.tuple #[.string ⟨#[]⟩, .string ⟨#[]⟩, .bool false]) ∧ w = w' := by
  have hlt : len8 s < 18446744073709551616 := by have := be_take_lt s 8; unfold len8; omega
  have hm : wrap64 (len8 s) < 0 ∨ (s.size : Int) - 8 < wrap64 (len8 s) := by
    by_cases hb : len8 s < 9223372036854775808
    · rw [IntWalk.wrap64_in _ ⟨by omega, by omega⟩]; omega
    · unfold wrap64; omega
  go_enter Try.func78, Try.ntmps78
  go_wp2_with fail
  refine (readNum_long s _ h (by omega)).mono ?_
  rintro e w' ⟨rfl, rfl⟩
  rw [show be (s.data.toList.take 8) = len8 s from rfl]
  clear hn hlt
  generalize wrap64 (len8 s : Int) = n at *
  by_cases h0 : n < 0
  · have h1 : decide (n < 0) = true := by simpa using h0
    clear hm h0
    go_wp2
    go_ret3
    exact ⟨rfl, rfl⟩
  · have h1 : decide (n < 0) = false := by simpa using h0
    have h2 : decide ((s.size : Int) - 8 < n) = true := by simp; omega
    clear hm h0
    go_wp2
    go_ret3
    exact ⟨rfl, rfl⟩

set_option maxRecDepth 100000 in
set_option maxHeartbeats 400000 in
theorem cut_yes (s : ByteArray) (w : World) (n : Nat) (h : 8 ≤ s.size) (hs : s.size ≤ 1099511627776) (hn : len8 s = n) (hl : n + 8 ≤ s.size) :
    Calls Try.prog 78 #[.string s] w fun e w' => e = .returned (.tuple #[.string (s.extract 8 (8 + n)), .string (s.extract (8 + n) s.size), .bool true]) ∧ ∃ k, w' = w.drewN k := by
  have hw : wrap64 (n : Int) = n := IntWalk.wrap64_in _ ⟨by omega, by omega⟩
  have hr := readNum_long s w h (by omega)
  rw [show be (s.data.toList.take 8) = n from hn, hw] at hr
  have Hr := Lib.hid hr
  clear hr hw hn
  go_enter Try.func78, Try.ntmps78
  go_wp2_with fail
  refine Hr.out.mono ?_
  rintro e w' ⟨rfl, rfl⟩
  have h1 : decide ((n : Int) < 0) = false := by simp
  have h2 : decide ((s.size : Int) - 8 < n) = false := by simp; omega
  go_wp2
  go_quiet (fail)
  go_wp2
  go_ret3
  exact ⟨rfl, _, rfl⟩
end Go.Proofs.Ytbdlmdmbaajcmaa.C
namespace Go.Proofs.Ytbdlmdmbaajcmaa.C
open Go.ChangeShapes Go.WideShapes Go.ChangeAt Go.RowKit

/-- How many bytes texts have in all. -/
def total : List ByteArray → Nat | [] => 0 | s :: r => s.size + total r
theorem total_append (a b : List ByteArray) : total (a ++ b) = total a + total b := by
  induction a with
  | nil => simp [total]
  | cons s r ih => simp [total, ih]; omega

theorem total_take (ss : List ByteArray) (k : Nat) (h : k < ss.length) : total (ss.take (k + 1)) = total (ss.take k) + (ss.getD k ByteArray.empty).size := by
  rw [List.take_succ_eq_append_getElem h, total_append]
  simp [total, List.getD, h]

theorem total_mono (ss : List ByteArray) (k m : Nat) (h : k ≤ m) (hm : m ≤ ss.length) : total (ss.take k) ≤ total (ss.take m) := by
  induction m with
  | zero => have : k = 0 := by omega
            subst this; exact Nat.le_refl _
  | succ m ih =>
    by_cases e : k = m + 1
    · subst e; exact Nat.le_refl _
    · have := ih (by omega) (by omega)
      rw [total_take ss m (by omega)]
      omega

set_option maxRecDepth 100000 in
set_option maxHeartbeats 400000 in
theorem same_len (v u : Value) (a b : List ByteArray) (w : World) (hv : Strs w v a) (hu : Strs w u b) (hl : a.length ≠ b.length) (ha : a.length ≤ 9223372036854775807) (hb : b.length ≤ 9223372036854775807) :
    Calls Try.prog 37 #[v, u] w fun e w' => e = .returned (.bool false) ∧ w = w' := by
  obtain ⟨p, hp⟩ : ∃ p c, v = .slice p a.length c := by
    rcases hv with ⟨⟨pz, cz, rfl⟩, rfl⟩ | ⟨b, off, cap, rfl, _⟩
    · exact ⟨_, _, rfl⟩
    · exact ⟨_, _, rfl⟩
  obtain ⟨q, hq⟩ : ∃ p c, u = .slice p b.length c := by
    rcases hu with ⟨⟨pz2, cz2, rfl⟩, rfl⟩ | ⟨b, off, cap, rfl, _⟩
    · exact ⟨_, _, rfl⟩
    · exact ⟨_, _, rfl⟩
  obtain ⟨c, rfl⟩ := hp
  obtain ⟨d, rfl⟩ := hq
  clear hv hu
  generalize a.length = m at *
  generalize b.length = n at *
  have h1 : ((m : Int) != (n : Int)) = true := by rw [bne_iff_ne]; omega
  go_enter Try.func37, Try.ntmps37
  go_wp2
  go_ret
  exact ⟨rfl, rfl⟩

theorem toList_eq {x y : ByteArray} (h : (!x.toList == y.toList) = false) : x = y := by
  have : x.toList = y.toList := by simpa using h
  rw [Lib.toList_data, Lib.toList_data] at this
  exact ByteArray.ext (Array.toList_inj.1 this)

theorem toList_ne {x y : ByteArray} (h : (!x.toList == y.toList) = true) : x ≠ y := by
  rintro rfl
  simp at h

/-- Two rows of one length, held against each other. -/
def SameEnd (w : World) (a b : List ByteArray) (e : Ending) (w' : World) : Prop := e = .returned (.bool (decide (a = b))) ∧ ∃ k, w' = w.drewN k

set_option maxRecDepth 100000 in
set_option maxHeartbeats 400000 in
theorem same_rows (v u : Value) (a b : List ByteArray) (w : World) (hv : Strs w v a) (hu : Strs w u b) (hl : a.length = b.length) :
    Calls Try.prog 37 #[v, u] w (SameEnd w a b) := by
  rcases hv with ⟨⟨pz, cz, rfl⟩, rfl⟩ | ⟨b1, o1, c1, rfl, hc1, hm1, hb1, hcell1⟩
  · have : b = [] := by cases b with | nil => rfl | cons _ _ => simp at hl
    subst this
    rcases hu with ⟨⟨pz2, cz2, rfl⟩, _⟩ | ⟨b2, o2, c2, rfl, hc2, hm2, hb2, hcell2⟩
    all_goals
      go_enter Try.func37, Try.ntmps37
      go_wp2
      refine wp_loop_rounds 1 ?_
      rw [rounds_succ]
      go_wp2
      go_ret
      exact ⟨rfl, 0, rfl⟩
  · rcases hu with ⟨⟨pz2, cz2, rfl⟩, rfl⟩ | ⟨b2, o2, c2, rfl, hc2, hm2, hb2, hcell2⟩
    · have : a = [] := by cases a with | nil => rfl | cons _ _ => simp at hl
      subst this
      go_enter Try.func37, Try.ntmps37
      go_wp2
      refine wp_loop_rounds 1 ?_
      rw [rounds_succ]
      go_wp2
      go_ret
      exact ⟨rfl, 0, rfl⟩
    · rw [← hl] at hcell2 hc2 ⊢
      obtain ⟨len, hlen⟩ : ∃ len, len = a.length := ⟨_, rfl⟩
      rw [← hlen] at hcell1 hcell2 hc1 hc2 hl ⊢
      have Hlen := Lib.hid hlen
      have Hl := Lib.hid hl
      unfold maxLen at hm1 hm2
      clear hlen hl
      go_enter Try.func37, Try.ntmps37
      go_wp2
      go_loopw [5, 13] (fun _ i wr => ∃ k : Nat, k ≤ len ∧ i = .int .i64 k ∧ a.take k = b.take k ∧ ∃ j, wr = w.drewN j) (fun _ i _ => len - (intOf i).toNat)
      case atStart => exact ⟨0, by omega, rfl, by simp, 0, rfl⟩
      case round =>
        obtain ⟨k, hk, rfl, htk, j, rfl⟩ := hrel
        have Htk := Lib.hid htk
        clear htk
        by_cases hlt : k < len
        · have hx := hcell1 k hlt
          have hy := hcell2 k hlt
          have hkl : (k : Int) < (len : Int) := by omega
          have hk0 : 0 ≤ (k : Int) := by omega
          clear hcell1 hcell2
          obtain ⟨x, hxe⟩ : ∃ x, x = a.getD k ByteArray.empty := ⟨_, rfl⟩
          obtain ⟨y, hye⟩ : ∃ y, y = b.getD k ByteArray.empty := ⟨_, rfl⟩
          rw [← hxe] at hx
          rw [← hye] at hy
          have Hx := Lib.hid hxe
          have Hy := Lib.hid hye
          clear hxe hye
          go_wp2
          go_quiet (fail)
          go_wp2
          · rename_i hne
            go_ret
            refine ⟨?_, j + nq, by simp⟩
            have : a ≠ b := fun e => toList_ne hne (by rw [Hx.out, Hy.out, e])
            simp [this]
          · rename_i heq
            refine ⟨⟨k + 1, by omega, by go_num, ?_, _, rfl⟩, by simp [intOf]; omega⟩
            have h1 := toList_eq heq
            have h2 := Hlen.out
            have h3 := Hl.out
            rw [Hx.out, Hy.out, List.getD_eq_getElem?_getD, List.getD_eq_getElem?_getD, List.getElem?_eq_getElem (by omega), List.getElem?_eq_getElem (by omega)] at h1
            have e1 := List.take_succ_eq_append_getElem (l := a) (i := k) (by omega)
            have e2 := List.take_succ_eq_append_getElem (l := b) (i := k) (by omega)
            have h4 : a[k]'(by omega) = b[k]'(by omega) := by simpa using h1
            rw [e1, e2, Htk.out, h4]
        · obtain rfl : k = len := by omega
          clear hcell1 hcell2
          go_wp2
          go_ret
          refine ⟨?_, _, rfl⟩
          have h1 := Htk.out
          rw [Hlen.out, List.take_length, ← Hlen.out, Hl.out, List.take_length] at h1
          simp [h1]
end Go.Proofs.Ytbdlmdmbaajcmaa.C
namespace Go.Proofs.Ytbdlmdmbaajcmaa.C
open Go.ChangeShapes Go.WideShapes Go.ChangeAt Go.RowKit

theorem ownsRow_below {w w' : World} {base : Nat} {e : TypeId} {size : Nat} {v : Value} {n : Nat} {xs : List Value} (h : w.ownsRow base e size v n xs) (hB : Below w.heap.size w w') : w'.ownsRow base e size v n xs :=
  h.kept (row := none) ⟨hB.os, hB.tape, hB.output, hB.size, fun k hk _ => hB.block k hk⟩ (by cases v.ownBlock <;> simp)

theorem builder_below {w w' : World} {T e : TypeId} {B b : Nat} {p : Value} {bs : List Value} (h : Lib.BuilderAt T e B b p bs w) (hB : Below w.heap.size w w') : Lib.BuilderAt T e B b p bs w' := by
  obtain ⟨h1, v, h2, h3, h4⟩ := h
  exact ⟨h1, v, by rw [hB.block _ (lt_of_block h2)]; exact h2, ownsRow_below h3 hB, h4⟩

/-- The bytes of parts, each behind its number. -/
def partsL : List ByteArray → List UInt8 | [] => [] | s :: r => (numB s.size).data.toList ++ s.data.toList ++ partsL r
theorem partsL_append (a b : List ByteArray) : partsL (a ++ b) = partsL a ++ partsL b := by
  induction a with
  | nil => rfl
  | cons s r ih => simp [partsL, ih]
def joinL (ss : List ByteArray) : List UInt8 := (numB ss.length).data.toList ++ partsL ss
def joinB (ss : List ByteArray) : ByteArray := ⟨(joinL ss).toArray⟩

theorem numB_len (x : Nat) : (numB x).data.toList.length = 8 := by simp [numB, strOfNums, numI]
theorem numB_size (x : Nat) : (numB x).size = 8 := by rw [numB, strOfNums_size]; rfl
theorem partsL_len (ss : List ByteArray) : (partsL ss).length = 8 * ss.length + total ss := by
  induction ss with
  | nil => rfl
  | cons s r ih =>
    rw [partsL, List.length_append, List.length_append, numB_len, ih]
    simp [total]; omega
theorem partsL_take (ss : List ByteArray) (k : Nat) (h : k < ss.length) : partsL (ss.take (k + 1)) = partsL (ss.take k) ++ ((numB (ss.getD k ByteArray.empty).size).data.toList ++ (ss.getD k ByteArray.empty).data.toList) := by
  rw [List.take_succ_eq_append_getElem h, partsL_append]
  simp [partsL, List.getD, h]
theorem len_mod (n : Nat) (h : n < 18446744073709551616) : ((n : Int) % 18446744073709551616).toNat = n := by omega
theorem cells_append (a b : List UInt8) : Lib.byteCells a ++ Lib.byteCells b = Lib.byteCells (a ++ b) := by simp [Lib.byteCells]
theorem strCells_eq (s : ByteArray) : Lib.strCells s = Lib.byteCells s.data.toList := rfl

set_option maxRecDepth 100000 in
set_option maxHeartbeats 400000 in
theorem join_any (v : Value) (ss : List ByteArray) (w : World) (hv : Strs w v ss) (hz : total ss ≤ 1099511627776) (hl : ss.length ≤ 1099511627776) :
    Calls Try.prog 66 #[v] w fun e w' => e = .returned (.string (joinB ss)) ∧ Below w.heap.size w w' := by
  rcases hv with ⟨⟨pz, cz, rfl⟩, rfl⟩ | ⟨b, off, cap, rfl, hcap, hmax, hb, hcell⟩
  · go_enter Try.func66, Try.ntmps66
    go_wp2_with fail
    refine wp_loop_rounds 1 ?_
    rw [rounds_succ]
    go_wp2_with fail
    refine (Try.Builder_Grow_fresh w.heap.size w.heap.size 8 _ (Nat.le_refl _) (heap_alloc_new w _) (by simp) (by omega)).mono ?_
    rintro e w1 ⟨rfl, hbd, hB1⟩
    go_wp2_with fail
    refine (num_any _ _).mono ?_
    rintro e w2 ⟨rfl, hB2⟩
    have hbd2 := builder_below hbd hB2
    have hB02 : Below w.heap.size w w2 := ((((Below.refl _ w).alloc (Nat.le_refl _) _).trans hB1).trans (hB2.mono (by have := hB1.size; simp at this; omega)))
    clear hB1 hB2 hbd
    go_wp2_with fail
    refine (Try.Builder_WriteString w.heap.size w.heap.size [] _ _ (.inr hbd2) (by simp [numB_size]) hB02.size).mono ?_
    rintro e w3 ⟨rfl, hbd3, hB3⟩
    rw [List.nil_append, strCells_eq] at hbd3
    have hB03 := hB02.trans hB3
    clear hbd2 hB3 hB02
    go_wp2_with fail
    refine wp_loop_rounds 1 ?_
    rw [rounds_succ]
    go_wp2_with fail
    refine (Try.Builder_String_any w.heap.size w.heap.size _ _ (.inr hbd3) hB03.size).mono ?_
    rintro e w4 ⟨rfl, hB4⟩
    have hB04 := hB03.trans hB4
    clear hbd3 hB4 hB03
    go_wp2_with fail
    go_ret
    exact ⟨by simp [joinB, joinL, partsL], hB04⟩
  · obtain ⟨len, hlen⟩ : ∃ len, len = ss.length := ⟨_, rfl⟩
    rw [← hlen] at hcap hl hcell ⊢
    have Hlen := Lib.hid hlen
    have Hz := Lib.hid hz
    unfold maxLen at hmax
    clear hlen hz
    go_enter Try.func66, Try.ntmps66
    go_wp2_with fail
    go_loop [3, 5, 11] (fun n _ i => ∃ k : Nat, k ≤ len ∧ i = .int .i64 k ∧ n = .int .i64 ((8 + 8 * k + total (ss.take k) : Nat) : Int)) (fun _ _ i => len - (intOf i).toNat)
    case atStart => exact ⟨0, by omega, rfl, rfl⟩
    case round =>
      obtain ⟨k, hk, rfl, rfl⟩ := hrel
      have htm := total_mono ss k ss.length (by have := Hlen.out; omega) (Nat.le_refl _)
      rw [List.take_length] at htm
      have hqz : total (ss.take k) ≤ 1099511627776 := by have := Hz.out; omega
      clear htm
      by_cases hlt : k < len
      · have hc := hcell k hlt
        have htm := total_mono ss (k+1) ss.length (by have := Hlen.out; omega) (Nat.le_refl _)
        rw [List.take_length] at htm
        have hts := total_take ss k (by have := Hlen.out; omega)
        have Hts := Lib.hid hts
        obtain ⟨s, hs⟩ : ∃ s, s = ss.getD k ByteArray.empty := ⟨_, rfl⟩
        rw [← hs] at hc hts
        have hsz : s.size ≤ 1099511627776 := by have := Hz.out; omega
        have Hs := Lib.hid hs
        clear hs hts hcell htm
        generalize hqq : total (ss.take k) = q at *
        clear hqq
        go_wp2_with fail
        exact ⟨⟨k + 1, by omega, by go_num, by rw [Hts.out, ← Hs.out]; go_num⟩, by simp [intOf]; omega⟩
      · obtain rfl : k = len := by omega
        generalize hqq : total (ss.take k) = q at *
        clear hqq
        go_wp2_with fail
        rw [show (8 + 8 * (k : Int) + (q : Int)) = ((8 + 8 * k + q : Nat) : Int) by omega]
        refine (Try.Builder_Grow_fresh w.heap.size w.heap.size (8 + 8 * k + q) _ (Nat.le_refl _) (heap_alloc_new w _) (by simp) (by omega)).mono ?_
        rintro e w1 ⟨rfl, hbd, hB1⟩
        go_wp2_with fail
        refine (num_any _ _).mono ?_
        rintro e w2 ⟨rfl, hB2⟩
        rw [len_mod _ (by omega)]
        have hbd2 := builder_below hbd hB2
        have hB02 : Below w.heap.size w w2 := ((((Below.refl _ w).alloc (Nat.le_refl _) _).trans hB1).trans (hB2.mono (by have := hB1.size; simp at this; omega)))
        clear hB1 hB2 hbd
        go_wp2_with fail
        refine (Try.Builder_WriteString w.heap.size w.heap.size [] (numB k) _ (.inr hbd2) (by simp [numB_size]) hB02.size).mono ?_
        rintro e w3 ⟨rfl, hbd3, hB3⟩
        rw [List.nil_append, strCells_eq] at hbd3
        have hB03 := hB02.trans hB3
        clear hbd2 hB3 hB02
        go_wp2_with fail
        go_loopw [8, 29] (fun _ i wr => ∃ j : Nat, j ≤ k ∧ i = .int .i64 j ∧ Lib.BuilderAt 127 5 w.heap.size w.heap.size (.pointer (some ⟨w.heap.size, 0, none⟩)) (Lib.byteCells ((numB k).data.toList ++ partsL (ss.take j))) wr ∧ Below w.heap.size w wr) (fun _ i _ => k - (intOf i).toNat)
        case atStart => exact ⟨0, by omega, rfl, by simpa [partsL] using hbd3, hB03⟩
        case round =>
          obtain ⟨j, hj, rfl, hbd, hB⟩ := hrel
          clear hbd3 hB03
          by_cases hjk : j < k
          · have hc : wr.cell? ⟨b, off + j, none⟩ = some (.string (ss.getD j ByteArray.empty)) := by rw [hB.cell (p := ⟨b, off + j, none⟩) hb]; exact hcell j hjk
            have hpt := partsL_take ss j (by have := Hlen.out; omega)
            have htl : total (ss.take (j + 1)) ≤ 1099511627776 := by
              have := total_mono ss (j + 1) ss.length (by have := Hlen.out; omega) (Nat.le_refl _)
              rw [List.take_length] at this; have := Hz.out; omega
            rw [total_take ss j (by have := Hlen.out; omega)] at htl
            have hpl := partsL_len (ss.take j)
            rw [List.length_take] at hpl
            obtain ⟨s, hs⟩ : ∃ s, s = ss.getD j ByteArray.empty := ⟨_, rfl⟩
            rw [← hs] at hc hpt htl
            have Hpt := Lib.hid hpt
            have Hpl := Lib.hid hpl
            have hsz : s.size ≤ 1099511627776 := by omega
            have hlb : (Lib.byteCells ((numB k).data.toList ++ partsL (ss.take j))).length ≤ 17592186044416 := by
              rw [Lib.byteCells_length, List.length_append, numB_len, hpl]; omega
            clear hs hpt hpl hcell htl
            go_wp2_with fail
            refine (num_any _ _).mono ?_
            rintro e w4 ⟨rfl, hB4⟩
            rw [len_mod _ (by omega)]
            have hbd4 := builder_below hbd hB4
            have hB04 := hB.trans (hB4.mono hB.size)
            clear hbd hB4 hB hc
            go_wp2_with fail
            refine (Try.Builder_WriteString w.heap.size w.heap.size _ (numB s.size) _ (.inr hbd4) (by rw [numB_size]; omega) hB04.size).mono ?_
            rintro e w5 ⟨rfl, hbd5, hB5⟩
            rw [strCells_eq, cells_append] at hbd5
            have hB05 := hB04.trans hB5
            clear hbd4 hB5 hB04
            go_wp2_with fail
            refine (Try.Builder_WriteString w.heap.size w.heap.size _ s _ (.inr hbd5) (by rw [← cells_append, List.length_append, Lib.byteCells_length (numB _).data.toList, numB_len]; omega) hB05.size).mono ?_
            rintro e w6 ⟨rfl, hbd6, hB6⟩
            rw [strCells_eq, cells_append] at hbd6
            have hB06 := hB05.trans hB6
            clear hbd5 hB6 hB05
            go_wp2_with fail
            refine ⟨⟨j + 1, by omega, by go_num, ?_, hB06⟩, by simp [intOf]; omega⟩
            rw [Hpt.out]
            simpa [List.append_assoc] using hbd6
          · obtain rfl : j = k := by omega
            clear hcell
            have htk : ss.take j = ss := by rw [Hlen.out, List.take_length]
            rw [htk] at hbd
            clear htk
            go_wp2_with fail
            refine (Try.Builder_String_any w.heap.size w.heap.size _ _ (.inr hbd) hB.size).mono ?_
            rintro e w4 ⟨rfl, hB4⟩
            have hB04 := hB.trans hB4
            clear hbd hB4 hB
            go_wp2_with fail
            go_ret
            have ej : joinB ss = ⟨((numB j).data.toList ++ partsL ss).toArray⟩ := by rw [joinB, joinL, ← Hlen.out]
            exact ⟨by rw [ej]; rfl, hB04⟩
end Go.Proofs.Ytbdlmdmbaajcmaa.C
