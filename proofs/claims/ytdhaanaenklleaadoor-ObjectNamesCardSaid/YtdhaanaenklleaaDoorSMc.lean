/- Plain lemmas: the rounds over a block's words; the state behind a block. -/
import Derived.Test.YtdhaanaenklleaaDoorSMb
import Derived.Test.YtdhaanaenklleaaDoorSWa
namespace Go.Proofs.YtdhaanaenklleaaDoor.S
open Go.RowKit

structure St where
  a : Nat
  b : Nat
  c : Nat
  d : Nat
  e : Nat
  f : Nat
  g : Nat
  h : Nat
def St.p (s : St) (k w : Nat) : Nat := (s.h + sb1 s.e + ch s.e s.f s.g + k + w) % 4294967296
def St.q (s : St) : Nat := (sb0 s.a + maj s.a s.b s.c) % 4294967296
def St.step (s : St) (k w : Nat) : St := ⟨(s.p k w + s.q) % 4294967296, s.a, s.b, s.c, (s.d + s.p k w) % 4294967296, s.e, s.f, s.g⟩
def St.rounds (W : List Nat) (s : St) : Nat → St
  | 0 => s
  | i + 1 => (St.rounds W s i).step (K64.getD i 0) (W.getD i 0)
def St.list (s : St) : List Nat := [s.a, s.b, s.c, s.d, s.e, s.f, s.g, s.h]
def St.ok (s : St) : Prop := s.a < 4294967296 ∧ s.b < 4294967296 ∧ s.c < 4294967296 ∧ s.d < 4294967296 ∧ s.e < 4294967296 ∧ s.f < 4294967296 ∧ s.g < 4294967296 ∧ s.h < 4294967296
def St.plus (s t : St) : St := ⟨(s.a + t.a) % 4294967296, (s.b + t.b) % 4294967296, (s.c + t.c) % 4294967296, (s.d + t.d) % 4294967296, (s.e + t.e) % 4294967296, (s.f + t.f) % 4294967296, (s.g + t.g) % 4294967296, (s.h + t.h) % 4294967296⟩
def St.block (s : St) (B : List Nat) : St := s.plus (s.rounds (wordsL B) 64)
theorem St.ok_step {s : St} (h : s.ok) (k w : Nat) : (s.step k w).ok := by
  obtain ⟨h1, h2, h3, h4, h5, h6, h7, h8⟩ := h
  exact ⟨Nat.mod_lt _ (by decide), h1, h2, h3, Nat.mod_lt _ (by decide), h5, h6, h7⟩
theorem St.ok_rounds {s : St} (h : s.ok) (W : List Nat) (i : Nat) : (s.rounds W i).ok := by
  induction i with
  | zero => exact h
  | succ i ih => exact St.ok_step ih _ _
theorem St.ok_plus (s t : St) : (s.plus t).ok := by
  refine ⟨?_, ?_, ?_, ?_, ?_, ?_, ?_, ?_⟩ <;> exact Nat.mod_lt _ (by decide)
theorem k64_small : Small 4294967296 K64 := fun j => by
  by_cases h : j < 64
  · have : ∀ i : Fin 64, K64.getD i.val 0 < 4294967296 := by decide +kernel
    exact this ⟨j, h⟩
  · rw [List.getD_eq_getElem?_getD, List.getElem?_eq_none (by rw [k64_len]; omega)]
    decide
theorem ch32 (e f g : Nat) (he : e < 4294967296) : ch e f g < 4294967296 := xor32 (and32 he) (and32 (by omega))
theorem maj32 (a b c : Nat) (ha : a < 4294967296) (hb : b < 4294967296) : maj a b c < 4294967296 := xor32 (xor32 (and32 ha) (and32 ha)) (and32 hb)
theorem maj_bits (a b c : Nat) (ha : a < 4294967296) (hb : b < 4294967296) (hc : c < 4294967296) :
    bits .xor .u32 (bits .xor .u32 (bits .and .u32 (a : Int) (b : Int)) (bits .and .u32 (a : Int) (c : Int))) (bits .and .u32 (b : Int) (c : Int)) = ((maj a b c : Nat) : Int) := by
  rw [u32_and_nat _ _ ha hb, u32_and_nat _ _ ha hc, u32_and_nat _ _ hb hc, xor3 _ _ _ (and32 ha) (and32 ha) (and32 hb)]
  rfl
theorem not32 (e : Nat) (he : e < 4294967296) : 4294967295 ^^^ e = 4294967295 - e := by
  have h := congrArg BitVec.toNat (BitVec.not_def (x := BitVec.ofNat 32 e))
  rw [BitVec.toNat_not, BitVec.toNat_xor, BitVec.toNat_allOnes, BitVec.toNat_ofNat, Nat.mod_eq_of_lt he] at h
  exact h.symm
theorem ch_bits (e f g : Nat) (he : e < 4294967296) (hf : f < 4294967296) (hg : g < 4294967296) :
    bits .xor .u32 (bits .and .u32 (e : Int) (f : Int)) (bits .and .u32 (bits .xor .u32 (if IntKind.u32.signed = true then -1 else IntKind.u32.max) (e : Int)) (g : Int)) = ((ch e f g : Nat) : Int) := by
  rw [show (if IntKind.u32.signed = true then -1 else IntKind.u32.max) = ((4294967295 : Nat) : Int) from rfl, u32_xor_nat _ _ (by decide) he, not32 e he, u32_and_nat _ _ he hf, u32_and_nat _ _ (by omega) hg, u32_xor_nat _ _ (and32 he) (and32 (by omega))]
  rfl
theorem p_bits (a b c d e f g h k x : Nat) (he : e < 4294967296) (hf : f < 4294967296) (hg : g < 4294967296) :
    ((((h : Int) + ((sb1 e : Nat) : Int) + bits .xor .u32 (bits .and .u32 (e : Int) (f : Int)) (bits .and .u32 (bits .xor .u32 (if IntKind.u32.signed = true then -1 else IntKind.u32.max) (e : Int)) (g : Int)) + (k : Int)) % 4294967296 + (x : Int)) % 4294967296) = ((St.p ⟨a, b, c, d, e, f, g, h⟩ k x : Nat) : Int) := by
  rw [ch_bits e f g he hf hg]
  simp only [St.p]
  omega
theorem q_bits (a b c d e f g h : Nat) (ha : a < 4294967296) (hb : b < 4294967296) (hc : c < 4294967296) :
    (((sb0 a : Nat) : Int) + bits .xor .u32 (bits .xor .u32 (bits .and .u32 (a : Int) (b : Int)) (bits .and .u32 (a : Int) (c : Int))) (bits .and .u32 (b : Int) (c : Int))) % 4294967296 = ((St.q ⟨a, b, c, d, e, f, g, h⟩ : Nat) : Int) := by
  rw [maj_bits a b c ha hb hc]
  simp only [St.q]
  omega
theorem cast_add (m n : Nat) : ((m : Int) + (n : Int)) % 4294967296 = (((m + n) % 4294967296 : Nat) : Int) := by omega
theorem pq_lt (s : St) (k w : Nat) : s.p k w < 4294967296 ∧ s.q < 4294967296 := ⟨Nat.mod_lt _ (by decide), Nat.mod_lt _ (by decide)⟩
theorem blk_eq (S : St) (B : List Nat) : S.block B = S.plus (S.rounds (wordsL B) 64) := rfl
theorem getD_range (F : Nat → Nat) (n j : Nat) (h : j < n) : ((List.range n).map F).getD j 0 = F j := by simp [List.getD_eq_getElem?_getD, h]
theorem Arr.congr {w : World} {b t n : Nat} {k : IntKind} {l l' : List Nat} (h : Arr w b t n k l) (hl : ∀ j, j < n → l'.getD j 0 = l.getD j 0) : Arr w b t n k l' := by
  obtain ⟨cur, h1, h2, h3⟩ := h
  exact ⟨cur, h1, h2, fun j hj => by rw [h3 j hj, hl j hj]⟩
theorem list_len (s : St) : s.list.length = 8 := rfl
theorem list_plus_get (S s : St) (j : Nat) (hj : j < 8) : (S.plus s).list.getD j 0 = (S.list.getD j 0 + s.list.getD j 0) % 4294967296 := by
  match j, hj with
  | 0, _ => simp [St.plus, St.list]
  | 1, _ => simp [St.plus, St.list]
  | 2, _ => simp [St.plus, St.list]
  | 3, _ => simp [St.plus, St.list]
  | 4, _ => simp [St.plus, St.list]
  | 5, _ => simp [St.plus, St.list]
  | 6, _ => simp [St.plus, St.list]
  | 7, _ => simp [St.plus, St.list]
/-- The list's number: a block's words, all known. -/
def KeysAt (w : World) : Prop := 0 < w.heap.size ∧ ∀ j, j < 64 → w.cell? ⟨0, j, none⟩ = some (.int .u32 ((K64.getD j 0 : Nat) : Int))
theorem KeysAt.below {w w' : World} {n : Nat} (h : KeysAt w) (hn : 0 < n) (hB : Below n w w') : KeysAt w' :=
  ⟨Nat.lt_of_lt_of_le h.1 hB.size, fun j hj => (hB.cell (p := ⟨0, j, none⟩) hn).trans (h.2 j hj)⟩
end Go.Proofs.YtdhaanaenklleaaDoor.S
