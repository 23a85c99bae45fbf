/- Walks: a number's four bytes are put. -/
import Derived.Test.YtcbddkncaeancaaWg
import Derived.Lib.AppendStr
import Derived.Laws.AppendOwnNone
import Derived.Laws.IdiomStrings
namespace Go.Proofs.Ytcbddkncaeancaa
set_option linter.unusedVariables false
open Go.ChangeShapes Go.WideShapes Go.ChangeAt Go.RowKit

def cellsL (l : List UInt8) : List Value := l.map fun b => Value.int .u8 b.toNat
theorem cellsL_append (a b : List UInt8) : cellsL (a ++ b) = cellsL a ++ cellsL b := by simp [cellsL]
theorem cellsL_len (a : List UInt8) : (cellsL a).length = a.length := by simp [cellsL]
theorem cellsL_word (x : Nat) (h : x < 4294967296) : cellsL (wordL x) = [.int .u8 ((x : Int) % 256), .int .u8 ((x : Int) / 256 % 256), .int .u8 ((x : Int) / 65536 % 256), .int .u8 ((x : Int) / 16777216)] := by
  simp only [cellsL, wordL, List.map_cons, List.map_nil, dg_nat, Nat.pow_zero, Nat.div_one, Nat.reducePow, List.cons.injEq, Value.int.injEq, true_and, and_true]
  omega

theorem cells4_new (w : World) (a b c d : Value) (t : TypeId) : ∀ (j : Nat) (u : Value), [a, b, c, d][j]? = some u → (w.alloc (.cells #[a, b, c, d] t)).cell? ((⟨w.heap.size, 0, none⟩ : Addr).add j) = some u := by
  intro j u hj
  rw [add_none, Nat.zero_add, World.cell?_alloc_at _ _ _ _ rfl]
  simpa using hj

/-- Bytes that are handed to append: none at all, or a row of cells. -/
def BytsA (w : World) (v : Value) (l : List UInt8) : Prop :=
  (v = .slice none 0 0 ∧ l = []) ∨ (∃ x cap, v = .slice (some x) 0 cap ∧ l = []) ∨
  ∃ b off cap, v = .slice (some ⟨b, off, none⟩) l.length cap ∧ l.length ≤ cap ∧ cap ≤ maxLen ∧ b < w.heap.size ∧ ∀ i, i < l.length → w.cell? ⟨b, off + i, none⟩ = some (.int .u8 (l.getD i 0).toNat)
theorem BytsA.byts {w : World} {v : Value} {l : List UInt8} (h : BytsA w v l) : Byts w v l := by
  rcases h with ⟨h1, h2⟩ | ⟨x, cap, h1, h2⟩ | h
  · exact .inl ⟨⟨_, _, h1⟩, h2⟩
  · exact .inl ⟨⟨_, _, h1⟩, h2⟩
  · exact .inr h
theorem BytsA.below {w w' : World} {v : Value} {l : List UInt8} (h : BytsA w v l) (hB : Below w.heap.size w w') : BytsA w' v l := by
  rcases h with h | h | ⟨b, off, cap, hv, hl, hc, hb, hcell⟩
  · exact .inl h
  · exact .inr (.inl h)
  · refine .inr (.inr ?_)
    exact ⟨b, off, cap, hv, hl, hc, Nat.lt_of_lt_of_le hb hB.size, fun i hi => by rw [hB.cell (p := ⟨b, off + i, none⟩) hb]; exact hcell i hi⟩
theorem BytsA.ofRow {w : World} {base : Nat} {v : Value} {l : List UInt8} (h : w.ownsRow base 5 1 v l.length (cellsL l)) : BytsA w v l := by
  rcases h.2 with ⟨hv, hn⟩ | ⟨g, cap, cur, hv, _, hg, hcap, hmax, hsz, htake⟩
  · exact .inl ⟨hv, List.eq_nil_of_length_eq_zero hn⟩
  · refine .inr (.inr ⟨g, 0, cap, hv, hcap, hmax, lt_of_block hg, fun i hi => ?_⟩)
    rw [block_cell hg]
    have e : (cur.toList.take (l.length * 1))[i]? = (cellsL l)[i]? := by rw [htake]
    rw [List.getElem?_take_of_lt (by omega), cellsL, List.getElem?_map, List.getElem?_eq_getElem hi] at e
    simpa [List.getD, hi] using e

theorem wpList_append_byts {w : World} {ops : Array Oper} {rest : List Oper} {o : Oper} {a : Act} {Q : Exit → Act → World → Prop} (hgd : o.guard = none) (s x : Operand)
    (ho : o.op = .call { callee := .builtin .append, args := #[s, x], argTypes := #[22, 22] }) (base : Nat) (v : Value) (n : Nat) (xs : List Value) (hs : a.eval s = v) (hown : w.ownsRow base 5 1 v n xs)
    (u : Value) (l : List UInt8) (hu : BytsA w u l) (hx : a.eval x = u) (hb : n + l.length ≤ 140737488355328) (hbase : base ≤ w.heap.size)
    (h : ∀ v' w', w'.ownsRow base 5 1 v' (n + l.length) (xs ++ cellsL l) → w.grownBy w' v.ownBlock → wpList Try.prog ops Q rest (a.put o.dst v') w') : wpList Try.prog ops Q (o :: rest) a w := by
  obtain ⟨i0, hi, hz0, hz1, hz2⟩ := info_parts Try.info5
  rcases hu with ⟨rfl, rfl⟩ | ⟨ad, cap, rfl, rfl⟩ | ⟨b, off, cap, rfl, hcap, hmax, hb2, hcell⟩
  · exact wpList_append_own_none hgd s x 22 ho base 5 i0 1 Try.underlying22 hi v n xs hs hown hx (h v w (by simpa [cellsL] using hown) ⟨rfl, rfl, rfl, Nat.le_refl _, fun _ _ _ => rfl⟩)
  · exact wpList_append_own w hgd s x 22 ho base 5 i0 (.int .u8 0) 1 1 Try.underlying22 hi hz0 hz1 hz2 rfl (by decide) v n xs hs hown ad 0 cap [] hx rfl (fun j u h => by simp at h) (fun u h => by simp at h) (by unfold maxLen; simp at hb; omega) (by simp at hb; omega) hbase (fun v' w' h1 h2 _ => h v' w' (by simpa [cellsL] using h1) h2)
  · refine wpList_append_own w hgd s x 22 ho base 5 i0 (.int .u8 0) 1 1 Try.underlying22 hi hz0 hz1 hz2 rfl (by decide) v n xs hs hown ⟨b, off, none⟩ l.length cap (cellsL l) hx (by rw [cellsL_len]; omega) ?_ ?_ (by unfold maxLen; omega) (by omega) hbase (fun v' w' h1 h2 _ => h v' w' h1 h2)
    · intro j y hj
      have hjl : j < l.length := by have := (List.getElem?_eq_some_iff.1 hj).1; rwa [cellsL_len] at this
      rw [add_none, hcell j hjl]
      rw [cellsL, List.getElem?_map, List.getElem?_eq_getElem hjl] at hj
      simpa [List.getD, hjl] using hj
    · intro y hy
      simp [cellsL] at hy
      obtain ⟨b, _, rfl⟩ := hy
      rfl

theorem nums_of2 (l : List UInt8) (i : Nat) (hi : i < l.length) : (List.map (fun b : UInt8 => (b.toNat : Int)) l).getD i 0 = ((l.getD i 0).toNat : Int) := by
  simp [List.getD, hi]
theorem byts_conv {w : World} {v : Value} {l : List UInt8} (h : BytsA w v l) : (convert 22 9 v).run Try.prog w = .ok (.string (mkB l)) w := by
  rcases h with ⟨rfl, rfl⟩ | ⟨x, cap, rfl, rfl⟩ | ⟨b, off, cap, rfl, hcap, hmax, hb2, hcell⟩
  · exact run_convert_bytes_nil _ 22 5 Try.underlying22 Try.underlying5 _ _ 9 Try.underlying9
  · exact run_convert_bytes_back w 22 9 5 x cap [] Try.underlying22 Try.underlying5 Try.underlying9 (fun j hj => by simp at hj)
  · rw [← nums_of]
    exact run_convert_bytes_arg _ 22 5 Try.underlying22 Try.underlying5 b off _ _ _ (by rw [List.length_map]) (fun i hi => by rw [nums_of2 l i hi]; exact hcell i hi) 9 Try.underlying9

set_option maxHeartbeats 400000 in
theorem put32_any (v : Value) (l : List UInt8) (x : Nat) (base : Nat) (w : World) (hx : x < 4294967296) (hown : w.ownsRow base 5 1 v l.length (cellsL l)) (hl : l.length ≤ 70368744177664) (hbase : base ≤ w.heap.size) :
    Calls Try.prog 21 #[v, .int .u32 x] w fun e w' => ∃ v', e = .returned v' ∧ w'.ownsRow base 5 1 v' (l.length + 4) (cellsL (l ++ wordL x)) ∧ Below base w w' := by
  obtain ⟨i0, hi, hz0, hz1, hz2⟩ := info_parts Try.info5
  have hcw := cellsL_word x hx
  have Hcw := Lib.hid hcw
  clear hcw
  go_enter Try.func21, Try.ntmps21
  go_wp2_with (at_builtin; go_must (refine wpList_append_own _ rfl (.tmp 5) (.tmp 17) 22 rfl base 5 i0 (.int .u8 0) 1 1 Try.underlying22 hi hz0 hz1 hz2 rfl (by decide) _ _ _ rfl (hown.alloc _) ⟨w.heap.size, 0, none⟩ 4 4 (cellsL (wordL x)) rfl rfl ?_ ?_ (by unfold maxLen; omega) (by omega) (by simp; omega) ?_))
  · rw [Hcw.out]; exact cells4_new _ _ _ _ _ _
  · intro u hu
    rw [Hcw.out] at hu
    simp at hu
    rcases hu with rfl | rfl | rfl | rfl <;> rfl
  · intro v1 w2 hown1 hgrow1 _
    go_wp2
    go_ret
    exact ⟨v1, rfl, by rw [cellsL_append]; exact hown1, ((Below.refl base w).alloc hbase _).grown hgrow1 (by simp; omega) (fun k hk => (hown.lt k hk).1)⟩
end Go.Proofs.Ytcbddkncaeancaa
