/- What a wanted module holds while it grows; pairs of paths and directories. -/
import Derived.Test.YtkmachhfibcdlaaDoorEb
namespace Go.Proofs.YtkmachhfibcdlaaDoor
set_option linter.unusedVariables false
set_option linter.unusedSimpArgs false
open Go.ChangeShapes Go.WideShapes Go.ChangeAt Go.RowKit

def wmA (p : ByteArray) (n : Int) (u : Value) : Array Value := #[.string p, .int .i64 n, u, .int .i64 0]
structure WB (b : Nat) (p : ByteArray) (n : Int) (I : List Rp) (v : Value) (w : World) : Prop where
  f : ∃ u, w.heap[b]? = some (.cells (wmA p n u) 27 (0, 0)) ∧ w.ownsRow (b + 1) 34 2 v I.length (LF rpV I)
structure WBE (b : Nat) (p : ByteArray) (n : Int) (I : List Rp) (v0 v : Value) (w : World) : Prop where
  e : v = v0
  b : WB b p n I v0 w
structure WM (b : Nat) (p : ByteArray) (n : Int) (I : List Rp) (w : World) : Prop where
  f : ∃ rv, w.heap[b]? = some (.cells (wmA p n rv) 27 (0, 0)) ∧ w.ownsRow (b + 1) 34 2 rv I.length (LF rpV I)
structure WF_ (b : Nat) (p : ByteArray) (n : Int) (I : List Rp) (v : Value) (w : World) : Prop where
  f : WM b p n I w
theorem WB.st1 (b : Nat) (p : ByteArray) (n : Int) (I : List Rp) : K3.St1 (WB b p n I) := fun v w1 w2 h hB => by
  obtain ⟨u, h1, h2⟩ := h.f
  exact ⟨⟨u, (hB.block _ (lt_of_block h1)).trans h1, gen_own_below h2 hB⟩⟩
theorem WBE.st1 (b : Nat) (p : ByteArray) (n : Int) (I : List Rp) (v0 : Value) : K3.St1 (WBE b p n I v0) := fun v w1 w2 h hB => ⟨h.e, WB.st1 _ _ _ _ v0 w1 w2 h.b hB⟩
theorem WM.below {b : Nat} {p : ByteArray} {n : Int} {I : List Rp} {w w' : World} (h : WM b p n I w) (hB : Below w.heap.size w w') : WM b p n I w' := by
  obtain ⟨u, h1, h2⟩ := h.f
  exact ⟨⟨u, (hB.block _ (lt_of_block h1)).trans h1, gen_own_below h2 hB⟩⟩
theorem WF_.st1 (b : Nat) (p : ByteArray) (n : Int) (I : List Rp) : K3.St1 (WF_ b p n I) := fun v w1 w2 h hB => ⟨h.f.below hB⟩
theorem WB.grow {b : Nat} {p : ByteArray} {n : Int} {I : List Rp} {v v' : Value} {w w' : World} {x : Rp} (h : WB b p n I v w) (ho : w'.ownsRow (b + 1) 34 2 v' (I.length + [x].length) (LF rpV I ++ LF rpV [x])) (hg : w.grownBy w' v.ownBlock) :
    WB b p n (I ++ [x]) v' w' ∧ Below b w w' := by
  obtain ⟨u, h1, h2⟩ := h.f
  have hB : Below (b + 1) w w' := (Below.refl _ _).grown hg (by have := lt_of_block h1; omega) (fun k hk => (h2.lt k hk).1)
  exact ⟨⟨⟨u, (hB.block b (by omega)).trans h1, by rw [List.length_append, LF_app]; exact ho⟩⟩, hB.mono (by omega)⟩
theorem WB.store {b : Nat} {p : ByteArray} {n : Int} {I : List Rp} {v : Value} {w : World} (h : WB b p n I v w) : WM b p n I (w.setCell ⟨b, 2, none⟩ v) := by
  obtain ⟨u, h1, h2⟩ := h.f
  refine ⟨⟨v, ?_, ownsRow_setCell_below h2 (by show b < b + 1; omega) _⟩⟩
  have h := block_set (i := 2) (u := v) h1
  simpa [wmA] using h
/-- A pair, as a replacement. -/
abbrev wDS : ByteArray := ⟨#[46, 47]⟩
def pe (z : ByteArray × ByteArray) : Rp := (z.1, wDS ++ z.2)
theorem pe_list (z : ByteArray × ByteArray) : (pe z).2.data.toList = [46, 47] ++ z.2.data.toList := ba_append _ _
theorem pe_dir (z : ByteArray × ByteArray) : dirB (pe z).2 = true := by
  unfold dirB
  rw [pe_list]
  simp [Lib.hasPrefix]
theorem zip_at {F D : List ByteArray} {k : Nat} {x d : ByteArray} (hx : F[k]? = some x) (hd : D[k]? = some d) : (F.zip D).take (k + 1) = (F.zip D).take k ++ [(x, d)] := by
  rw [List.take_add_one]
  have : (F.zip D)[k]? = some (x, d) := List.getElem?_zip_eq_some.2 ⟨hx, hd⟩
  rw [this]
  rfl
theorem lnR_pe (x d : ByteArray) : lnR (pe (x, d)) ++ [10] = [114, 101, 112, 108, 97, 99, 101, 32] ++ x.data.toList ++ [32, 61, 62, 32, 46, 47] ++ d.data.toList ++ [10] := by
  show (wReplace.data.toList ++ 32 :: (x.data.toList ++ 32 :: (wArrow.data.toList ++ 32 :: (pe (x, d)).2.data.toList))) ++ [10] = _
  rw [pe_list]
  simp
theorem lnI_pe (x d : ByteArray) : lnI (pe (x, d)) ++ [10] = x.data.toList ++ [32, 61, 62, 32, 46, 47] ++ d.data.toList ++ [10] := by
  show (x.data.toList ++ 32 :: (wArrow.data.toList ++ 32 :: (pe (x, d)).2.data.toList)) ++ [10] = _
  rw [pe_list]
  simp
theorem more_R (S x d : ByteArray) : (S ++ ⟨#[114, 101, 112, 108, 97, 99, 101, 32]⟩ ++ x ++ ⟨#[32, 61, 62, 32, 46, 47]⟩ ++ d ++ ⟨#[10]⟩).data.toList = S.data.toList ++ tx [lnR (pe (x, d))] := by
  rw [tx_one, lnR_pe]
  simp only [ba_append, List.append_assoc]
theorem more_I (S x d : ByteArray) : (S ++ x ++ ⟨#[32, 61, 62, 32, 46, 47]⟩ ++ d ++ ⟨#[10]⟩).data.toList = S.data.toList ++ tx [lnI (pe (x, d))] := by
  rw [tx_one, lnI_pe]
  simp only [ba_append, List.append_assoc]
theorem mid_true (p : ByteArray) (n : Nat) (X : List Rp) : tx (lnM p :: [] :: lnD n :: (midL true X ++ [lnQ wX])) = tx [lnM p, [], lnD n, lnO] ++ tx (X.map lnI) ++ [41, 10] ++ [114, 101, 113, 117, 105, 114, 101, 32, 120, 32, 118, 49, 10] := by
  have e : lnM p :: [] :: lnD n :: (midL true X ++ [lnQ wX]) = [lnM p, [], lnD n, lnO] ++ X.map lnI ++ [lnC] ++ [lnQ wX] := by simp [midL]
  have e1 : tx [lnC] = [41, 10] := rfl
  have e2 : tx [lnQ wX] = [114, 101, 113, 117, 105, 114, 101, 32, 120, 32, 118, 49, 10] := rfl
  rw [e, tx_app, tx_app, tx_app, e1, e2]
theorem mid_false (p : ByteArray) (n : Nat) (X : List Rp) : tx (lnM p :: [] :: lnD n :: (midL false X ++ [lnQ wX])) = tx [lnM p, [], lnD n] ++ tx (X.map lnR) ++ [114, 101, 113, 117, 105, 114, 101, 32, 120, 32, 118, 49, 10] := by
  have e : lnM p :: [] :: lnD n :: (midL false X ++ [lnQ wX]) = [lnM p, [], lnD n] ++ X.map lnR ++ [lnQ wX] := by simp [midL]
  have e2 : tx [lnQ wX] = [114, 101, 113, 117, 105, 114, 101, 32, 120, 32, 118, 49, 10] := rfl
  rw [e, tx_app, tx_app, e2]
theorem base_false (p : ByteArray) (n : Nat) : tx [lnM p, [], lnD n] = [109, 111, 100, 117, 108, 101, 32] ++ p.data.toList ++ [10, 10, 103, 111, 32, 49, 46] ++ Lib.decDigits n ++ [10] := by
  rw [tx_cons, tx_cons, tx_one]
  show (wModule.data.toList ++ 32 :: p.data.toList) ++ 10 :: ([] ++ 10 :: ((wGo.data.toList ++ 32 :: (lvD n).data.toList) ++ [10])) = _
  simp [lvD_list]
theorem base_true (p : ByteArray) (n : Nat) : tx [lnM p, [], lnD n, lnO] = [109, 111, 100, 117, 108, 101, 32] ++ p.data.toList ++ [10, 10, 103, 111, 32, 49, 46] ++ Lib.decDigits n ++ [10] ++ [114, 101, 112, 108, 97, 99, 101, 32, 40, 10] := by
  have e1 : tx [lnO] = [114, 101, 112, 108, 97, 99, 101, 32, 40, 10] := rfl
  rw [show [lnM p, [], lnD n, lnO] = [lnM p, [], lnD n] ++ [lnO] from rfl, tx_app, base_false, e1]
/-- Digits, from the last one on. -/
def Dg (n m : Nat) (S : ByteArray) (g : Nat) : Prop := (S = ⟨#[]⟩ ∧ m = n ∧ g = n + 1) ∨ (S ≠ ⟨#[]⟩ ∧ g = m ∧ (0 < m → Lib.decDigits n = Lib.decDigits m ++ S.data.toList) ∧ (m = 0 → S.data.toList = Lib.decDigits n))
theorem Dg.next {n m g : Nat} {S : ByteArray} (h : Dg n m S g) (hm : 0 < m ∨ S = ⟨#[]⟩) : Dg n (m / 10) (mkB [UInt8.ofNat (48 + m % 10)] ++ S) (m / 10) ∧ m / 10 < g := by
  have hne : mkB [UInt8.ofNat (48 + m % 10)] ++ S ≠ ⟨#[]⟩ := fun e => by
    have := congrArg ByteArray.size e
    rw [ByteArray.size_append, mkB_size, List.length_singleton, show (⟨#[]⟩ : ByteArray).size = 0 from rfl] at this
    omega
  have hl : (mkB [UInt8.ofNat (48 + m % 10)] ++ S).data.toList = UInt8.ofNat (48 + m % 10) :: S.data.toList := by rw [ba_append]; rfl
  have hdec : Lib.decDigits n = Lib.decDigits m ++ S.data.toList := by
    rcases h with ⟨h1, h2, h3⟩ | ⟨h1, h2, h3, h4⟩
    · rw [h1, h2]; simp
    · rcases hm with hm | hm
      · exact h3 hm
      · exact absurd hm h1
  refine ⟨.inr ⟨hne, rfl, fun h0 => ?_, fun h0 => ?_⟩, ?_⟩
  · rw [hl, hdec, dec_big (by omega), List.append_assoc]
    rfl
  · rw [hl, hdec, dec_small (by omega), Nat.mod_eq_of_lt (by omega)]
    rfl
  · rcases h with ⟨h1, h2, h3⟩ | ⟨h1, h2, h3, h4⟩
    · omega
    · rcases hm with hm | hm
      · omega
      · exact absurd hm h1
theorem Dg.size {n m g : Nat} {S : ByteArray} (h : Dg n m S g) (hn : n ≤ 9999) : S.size ≤ 4 := by
  have h4 := dec_len hn
  rcases h with ⟨h1, h2, h3⟩ | ⟨h1, h2, h3, h4'⟩
  · rw [h1]; decide
  · rcases Nat.eq_zero_or_pos m with h0 | h0
    · have := congrArg List.length (h4' h0)
      rw [ba_len] at this
      omega
    · have := congrArg List.length (h3 h0)
      rw [List.length_append, ba_len] at this
      omega
end Go.Proofs.YtkmachhfibcdlaaDoor
