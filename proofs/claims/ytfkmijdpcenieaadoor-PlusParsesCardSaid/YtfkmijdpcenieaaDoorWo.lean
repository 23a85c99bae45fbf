/- Walks: the document's reader: what it holds; Take. -/
import Derived.Test.YtfkmijdpcenieaaDoorPe
namespace Go.Proofs.YtfkmijdpcenieaaDoor
set_option linter.unusedVariables false
open Go.ChangeShapes Go.WideShapes Go.ChangeAt Go.RowKit

def Low (base : Nat) (w : World) (v : Value) (l : List ByteArray) : Prop :=
  (∃ p cap, v = .slice p 0 cap ∧ l = []) ∨
  ∃ g off cap, v = .slice (some ⟨g, off, none⟩) l.length cap ∧ l.length ≤ cap ∧ cap ≤ maxLen ∧ g < base ∧ ∀ i, i < l.length → w.cell? ⟨g, off + i, none⟩ = some (.string (l.getD i ByteArray.empty))
theorem Low.below {base : Nat} {w w' : World} {v : Value} {l : List ByteArray} (h : Low base w v l) (hB : Below base w w') : Low base w' v l := by
  rcases h with h | ⟨g, off, cap, hv, h1, h2, h3, h4⟩
  · exact .inl h
  · exact .inr ⟨g, off, cap, hv, h1, h2, h3, fun i hi => by rw [hB.cell (p := ⟨g, off + i, none⟩) h3]; exact h4 i hi⟩
theorem Low.nil {base : Nat} {w : World} {v : Value} (h : Low base w v []) : ∃ p cap, v = .slice p 0 cap := by
  rcases h with ⟨p, cap, h, _⟩ | ⟨g, off, cap, hv, _⟩
  · exact ⟨p, cap, h⟩
  · exact ⟨_, cap, hv⟩
theorem Low.cons {base : Nat} {w : World} {v : Value} {x : ByteArray} {q : List ByteArray} (h : Low base w v (x :: q)) : ∃ g off cap, v = .slice (some ⟨g, off, none⟩) (q.length + 1) cap ∧ q.length + 1 ≤ cap ∧ cap ≤ 9223372036854775807 ∧ g < base ∧ w.cell? ⟨g, off, none⟩ = some (.string x) ∧ ∀ i, i < q.length → w.cell? ⟨g, off + 1 + i, none⟩ = some (.string (q.getD i ByteArray.empty)) := by
  rcases h with ⟨p, cap, _, h⟩ | ⟨g, off, cap, hv, h1, h2, h3, h4⟩
  · cases h
  · unfold maxLen at h2
    refine ⟨g, off, cap, hv, by simpa using h1, by omega, h3, ?_, fun i hi => ?_⟩
    · have := h4 0 (by simp); simpa using this
    · have := h4 (i + 1) (by simp; omega)
      rw [Nat.add_assoc, Nat.add_comm 1 i]; simpa using this
/-- What the document's reader at b holds. -/
def RdP (base b : Nat) (p : StP) (w : World) : Prop :=
  base ≤ b ∧ ∃ lv pv, w.heap[b]? = some (.cells #[lv, pv, .int .i64 (p.deep : Nat)] 63 (0, 0)) ∧ Low base w lv p.left ∧ w.ownsRow base 9 1 pv p.parts.length (p.parts.map Value.string) ∧ pv.ownBlock ≠ some b
theorem RdP.lt {base b : Nat} {p : StP} {w : World} (h : RdP base b p w) : b < w.heap.size := by
  obtain ⟨_, lv, pv, h1, _⟩ := h; exact lt_of_block h1
theorem RdP.deep {base b : Nat} {s : StP} {w : World} (h : RdP base b s w) (d : Nat) : RdP base b { s with deep := d } (w.setCell ⟨b, 2, none⟩ (.int .i64 (d : Nat))) := by
  obtain ⟨h0, lv, pv, h1, hl, h2, h3⟩ := h
  exact ⟨h0, lv, pv, block_set h1, hl.below ((Below.refl base w).setCell h0 _), own_set h2 h3, h3⟩
theorem RdP.left {base b : Nat} {s : StP} {w : World} {v : Value} {l : List ByteArray} (h : RdP base b s w) (hv : Low base w v l) : RdP base b { s with left := l } (w.setCell ⟨b, 0, none⟩ v) := by
  obtain ⟨h0, lv, pv, h1, hl, h2, h3⟩ := h
  exact ⟨h0, v, pv, block_set h1, hv.below ((Below.refl base w).setCell h0 _), own_set h2 h3, h3⟩
theorem RdP.cell2 {base b : Nat} {s : StP} {w : World} (h : RdP base b s w) : w.cell? ⟨b, 2, none⟩ = some (.int .i64 (s.deep : Nat)) ∧ w.frozen? ⟨b, 2, none⟩ = false := by
  obtain ⟨h0, lv, pv, h1, h2, h3⟩ := h
  exact ⟨by rw [block_cell h1]; rfl, block_free h1 2⟩
theorem RdP.cell0 {base b : Nat} {s : StP} {w : World} (h : RdP base b s w) : ∃ lv, (w.cell? ⟨b, 0, none⟩ = some lv ∧ w.frozen? ⟨b, 0, none⟩ = false) ∧ Low base w lv s.left := by
  obtain ⟨h0, lv, pv, h1, h2, h3⟩ := h
  exact ⟨lv, ⟨by rw [block_cell h1]; rfl, block_free h1 0⟩, h2⟩
theorem RdP.push {base b : Nat} {u : StP} {W W' w8 : World} {lv pv : Value} {x : ByteArray} {g cap : Nat} (hbb : base ≤ b) (hblk : W.heap[b]? = some (.cells #[lv, pv, .int .i64 (u.deep : Nat)] 63 (0, 0))) (hlow : Low base W lv u.left)
    (hown : W.ownsRow base 9 1 pv u.parts.length (u.parts.map Value.string)) (hne : pv.ownBlock ≠ some b) (hBW : Below base W W') (hk : W'.heap[b]? = W.heap[b]?) (hgrow : W'.grownBy w8 pv.ownBlock)
    (hown8 : w8.ownsRow base 9 1 (.slice (some ⟨g, 0, none⟩) (u.parts.length + 1) cap) (u.parts.length + 1) (u.parts.map Value.string ++ [.string x])) (hat : pv.ownBlock = some g ∨ W.heap.size ≤ g) :
    (w8.cell? ⟨b, 1, none⟩ = some pv ∧ w8.frozen? ⟨b, 1, none⟩ = false) ∧ RdP base b { u with parts := u.parts ++ [x] } (w8.setCell ⟨b, 1, none⟩ (.slice (some ⟨g, 0, none⟩) (u.parts.length + 1) cap)) ∧ Below base W (w8.setCell ⟨b, 1, none⟩ (.slice (some ⟨g, 0, none⟩) (u.parts.length + 1) cap)) := by
  have hlt := lt_of_block hblk
  have hlt' := lt_of_block (hk.trans hblk)
  have h8 : w8.heap[b]? = some (.cells #[lv, pv, .int .i64 (u.deep : Nat)] 63 (0, 0)) := by
    rw [hgrow.block b hlt' (fun e => hne e.symm), hk, hblk]
  have hne8 : (Value.slice (some ⟨g, 0, none⟩) (u.parts.length + 1) cap).ownBlock ≠ some b := by
    intro e
    have e2 : g = b := by simpa [Value.ownBlock] using e
    rcases hat with h | h
    · exact hne (h.trans (by rw [e2]))
    · omega
  have hB8 : Below base W (w8.setCell ⟨b, 1, none⟩ (.slice (some ⟨g, 0, none⟩) (u.parts.length + 1) cap)) :=
    (hBW.grown hgrow (by omega) (fun j hj => (hown.lt j hj).1)).setCell hbb _
  refine ⟨⟨(block_cell h8 1).trans rfl, block_free h8 1⟩, ⟨hbb, lv, _, block_set h8, hlow.below hB8, ?_, hne8⟩, hB8⟩
  have ho := own_set (i := 1) (u := Value.slice (some ⟨g, 0, none⟩) (u.parts.length + 1) cap) hown8 hne8
  simpa using ho

def TakeEnd (base b : Nat) (sg : ByteArray) (p : StP) (w : World) (e : Ending) (w' : World) : Prop :=
  e = .returned (.bool (takeP sg p.left).1) ∧ RdP base b { p with left := (takeP sg p.left).2 } w' ∧ Below base w w'
theorem Low.tail {base : Nat} {w : World} {g off cap : Nat} {q : List ByteArray} (h1 : q.length + 1 ≤ cap) (h2 : cap ≤ 9223372036854775807) (h3 : g < base) (h4 : ∀ i, i < q.length → w.cell? ⟨g, off + 1 + i, none⟩ = some (.string (q.getD i ByteArray.empty))) {v : Value} (hv : v = .slice (some ⟨g, off + 1, none⟩) q.length (cap - 1) ∨ (q.length = 0 ∧ ∃ p c, v = .slice p 0 c)) : Low base w v q := by
  rcases hv with rfl | ⟨h0, p, c, rfl⟩
  · exact .inr ⟨g, off + 1, cap - 1, rfl, by omega, by unfold maxLen; omega, h3, h4⟩
  · exact .inl ⟨p, c, rfl, List.eq_nil_of_length_eq_zero h0⟩

set_option maxHeartbeats 1000000 in
theorem take_any (base b : Nat) (sg : ByteArray) (p : StP) (w : World) (hR : RdP base b p w) : Calls Tryd.prog 58 #[.pointer (some ⟨b, 0, none⟩), .string sg] w (TakeEnd base b sg p w) := by
  have hbb := hR.1
  obtain ⟨lv, ⟨hc0, hf0⟩, hlow⟩ := hR.cell0
  obtain ⟨l, P, d⟩ := p
  simp only at hlow
  cases l with
  | nil =>
    obtain ⟨q, cap, rfl⟩ := hlow.nil
    have He := Lib.hid (show ∀ w', RdP base b ⟨[], P, d⟩ w' → Below base w w' → TakeEnd base b sg ⟨[], P, d⟩ w (.returned (.bool false)) w' from fun w' h1 h2 => ⟨rfl, h1, h2⟩)
    have HR := Lib.hid hR
    clear hR hlow
    go_enter Tryd.func58, Tryd.ntmps58
    go_wp2_with fail
    go_ret
    exact He.out _ HR.out (Below.refl _ _)
  | cons x q =>
    obtain ⟨g, off, cap, rfl, h1, h2, h3, hx, h4⟩ := hlow.cons
    by_cases e : x = sg
    · subst e
      have He := Lib.hid (show ∀ w', RdP base b ⟨q, P, d⟩ w' → Below base w w' → TakeEnd base b x ⟨x :: q, P, d⟩ w (.returned (.bool true)) w' from fun w' h1 h2 => ⟨by simp only; rw [takeP_eq rfl], by simp only; rw [takeP_eq rfl]; exact h1, h2⟩)
      have HR := Lib.hid hR
      have Ht := Lib.hid (fun v => Low.tail (v := v) h1 h2 h3 h4)
      clear hR hlow h4
      generalize q.length = n at *
      go_enter Tryd.func58, Tryd.ntmps58
      go_wp2_with fail
      · rename_i hcap
        go_ret
        exact He.out _ (HR.out.left (Ht.out _ (.inr ⟨by omega, _, _, by rw [show n = 0 by omega]⟩))) ((Below.refl _ _).setCell hbb _)
      · go_ret
        exact He.out _ (HR.out.left (Ht.out _ (.inl rfl))) ((Below.refl _ _).setCell hbb _)
    · have he2 : (x.toList == sg.toList) = false := by rw [beq_eq_false_iff_ne]; intro h; rw [Lib.toList_data, Lib.toList_data] at h; exact e (ba_ext h)
      have He := Lib.hid (show ∀ w', RdP base b ⟨x :: q, P, d⟩ w' → Below base w w' → TakeEnd base b sg ⟨x :: q, P, d⟩ w (.returned (.bool false)) w' from fun w' h1 h2 => ⟨by simp only; rw [takeP_ne e], by simp only; rw [takeP_ne e]; exact h1, h2⟩)
      have HR := Lib.hid hR
      clear hR hlow h4
      generalize q.length = n at *
      go_enter Tryd.func58, Tryd.ntmps58
      go_wp2_with fail
      go_ret
      exact He.out _ HR.out (Below.refl _ _)
end Go.Proofs.YtfkmijdpcenieaaDoor
