/- Two stores on one device, and the document's two. -/
import Derived.Test.YtbdlmdmbaajcmaaVg
namespace Go.Proofs.Ytbdlmdmbaajcmaa
set_option linter.unusedVariables false
set_option linter.unusedSimpArgs false
open Go.ChangeShapes Go.WideShapes Go.ChangeAt Go.RowKit

/-- One of both: the code's store, the document's. -/
structure Side where
  b : Nat
  nm : ByteArray
  L : List En
  c : Nat
  z : Int
/-- Two stores of the code's on one device, two of the document's: all in blocks apart, from B on. -/
structure Quad (B d : Nat) (h : Hd) (A : List Ab) (s t : Side) (w : World) : Prop where
  f : ∃ TD T1 T2 R1 R2 : Nat → Prop, DV TD d h A w ∧ St T1 s.b d s.nm 20 s.L w ∧ St T2 t.b d t.nm 20 t.L w ∧ Rs R1 s.c 20 s.L s.z w ∧ Rs R2 t.c 20 t.L t.z w ∧
    (∀ k, TD k → ¬ T1 k ∧ ¬ T2 k ∧ ¬ R1 k ∧ ¬ R2 k) ∧ (∀ k, T1 k → ¬ T2 k ∧ ¬ R1 k ∧ ¬ R2 k) ∧ (∀ k, T2 k → ¬ R1 k ∧ ¬ R2 k) ∧ (∀ k, R1 k → ¬ R2 k) ∧
    (∀ k, TD k ∨ T1 k ∨ T2 k ∨ R1 k ∨ R2 k → B ≤ k ∧ k < w.heap.size)
theorem Quad.swap {B d : Nat} {h : Hd} {A : List Ab} {s t : Side} {w : World} (q : Quad B d h A s t w) : Quad B d h A t s w := by
  obtain ⟨TD, T1, T2, R1, R2, a1, a2, a3, a4, a5, d1, d2, d3, d4, bb⟩ := q.f
  exact ⟨TD, T2, T1, R2, R1, a1, a3, a2, a5, a4, fun k hk => ⟨(d1 k hk).2.1, (d1 k hk).1, (d1 k hk).2.2.2, (d1 k hk).2.2.1⟩,
    fun k hk => ⟨fun h1 => (d2 k h1).1 hk, (d3 k hk).2, (d3 k hk).1⟩, fun k hk => ⟨(d2 k hk).2.2, (d2 k hk).2.1⟩, fun k hk h1 => d4 k h1 hk, fun k hk => bb k (by
      rcases hk with hk | hk | hk | hk | hk
      · exact .inl hk
      · exact .inr (.inr (.inl hk))
      · exact .inr (.inl hk)
      · exact .inr (.inr (.inr (.inr hk)))
      · exact .inr (.inr (.inr (.inl hk))))⟩
theorem Quad.below {B d : Nat} {h : Hd} {A : List Ab} {s t : Side} {w w' : World} (q : Quad B d h A s t w) (hB : Below w.heap.size w w') : Quad B d h A s t w' := by
  obtain ⟨TD, T1, T2, R1, R2, a1, a2, a3, a4, a5, d1, d2, d3, d4, bb⟩ := q.f
  exact ⟨TD, T1, T2, R1, R2, a1.below hB, a2.below hB, a3.below hB, a4.below hB, a5.below hB, d1, d2, d3, d4, fun k hk => ⟨(bb k hk).1, Nat.lt_of_lt_of_le (bb k hk).2 hB.size⟩⟩
theorem Quad.has {B d : Nat} {h : Hd} {A : List Ab} {s t : Side} {w : World} (q : Quad B d h A s t w) (bL : Bd 200 s.L) :
    ∃ p c, w.heap[s.c]? = some (.cells (rsA 20 (.slice p s.L.length c) s.z) 34 (0, 0)) ∧ Calls Try.prog 14 #[.pointer (some ⟨s.b, 0, none⟩), .slice p s.L.length c] w fun e w' => e = .returned (.bool true) ∧ Below w.heap.size w w' := by
  obtain ⟨TD, T1, T2, R1, R2, a1, a2, a3, a4, a5, _⟩ := q.f
  obtain ⟨lv, h1, h2⟩ := a4.f
  obtain ⟨p, c, hv⟩ := h2.slice
  subst hv
  refine ⟨p, c, h1, ?_⟩
  have := has_any a2 bL.nd (by have := bL.l; omega) s.L _ h2.lat (by have := bL.l; omega)
  rwa [decide_eq_true (show s.L = s.L from rfl)] at this
/-- A call on the first. -/
theorem Quad.does {B d : Nat} {h : Hd} {A : List Ab} {s t : Side} {w : World} {n T : Nat} (q : Quad B d h A s t w) (hB : B ≤ w.heap.size) (lo : Lot n T h A) (hn : n ≤ 1000) (g : goodN s.nm = true) (g2 : goodN (s.nm ++ wNew) = true) (bL : Bd 100 s.L) (hl20 : (s.L.length : Int) ≤ 20) (hsum : sumL s.L ≤ 4096) (hzz : 0 ≤ s.z ∧ s.z ≤ 1099511627776) (c : Cl) (hk : c.key.size + c.val.size ≤ 4096) (hT : T + 8271 ≤ 1048576) :
    Calls Try.prog 13 #[.pointer (some ⟨s.b, 0, none⟩), .pointer (some ⟨s.c, 0, none⟩), cA c, .int .i64 1048576] w fun e w' => ∃ er, e = .returned (.tuple #[.int .i64 er, .int .i64 er]) ∧ (∃ h2 A2, Quad B d h2 A2 ⟨s.b, s.nm, (refOut s.L 20 s.z 1048576 c).2.1, s.c, (refOut s.L 20 s.z 1048576 c).2.2⟩ t w' ∧ Lot (n + 3) (T + 8271) h2 A2) ∧ Below B w w' := by
  obtain ⟨TD, T1, T2, R1, R2, a1, a2, a3, a4, a5, d1, d2, d3, d4, bb⟩ := q.f
  have kv : Kv TD T1 s.b d s.nm 20 h A s.L w := ⟨a1, a2, fun k hk => (d1 k hk).1, fun k hk => (bb k (.inl hk)).2, fun k hk => (bb k (.inr (.inl hk))).2⟩
  have pr : Pair TD T1 R1 s.b d s.nm 20 h A s.L s.c 20 s.L s.z w := ⟨kv, a4, fun k hk ho => by
    rcases ho with ho | ho
    · exact (d1 k ho).2.2.1 hk
    · exact (d2 k ho).2.1 hk, fun k hk => (bb k (.inr (.inr (.inr (.inl hk))))).2⟩
  obtain ⟨h2, A2, q1, q2, q3⟩ := code_two lo kv.dv.nd g g2 bL hl20 hsum c hk s.z hT
  have hns : s.nm.size ≤ 28 := by
    have := (goodN_size g2).2
    rw [ByteArray.size_append] at this
    have : wNew.size = 4 := rfl
    omega
  refine (does_any pr lo.ok (by omega) hns (bL.mono (by omega)) (bL.mono (by omega)) (by decide) (by decide) hzz c (by omega) (by omega) 1048576).mono ?_
  rintro e w' ⟨TD', T1', R1', he, p1, p2, p3, p4, p5⟩
  rw [q2, q1] at p1
  rw [q1] at he
  have hX : ∀ k, T2 k ∨ R2 k → k < w.heap.size ∧ ¬ (Or2 TD T1 k ∨ k = s.c) := fun k hk => by
    rcases hk with hk | hk
    · refine ⟨(bb k (.inr (.inr (.inl hk)))).2, fun ho => ?_⟩
      rcases ho with (ho | ho) | ho
      · exact (d1 k ho).2.1 hk
      · exact (d2 k ho).1 hk
      · exact (d3 k hk).1 (ho ▸ a4.t)
    · refine ⟨(bb k (.inr (.inr (.inr (.inr hk))))).2, fun ho => ?_⟩
      rcases ho with (ho | ho) | ho
      · exact (d1 k ho).2.2.2 hk
      · exact (d2 k ho).2.2 hk
      · exact d4 k (ho ▸ a4.t) hk
  refine ⟨_, he, ⟨h2, A2, ⟨TD', T1', T2, R1', R2, p1.kv.dv, p1.kv.st, a3.kept p5 (fun k hk => (hX k (.inl hk)).2), p1.rs, a5.kept p5 (fun k hk => (hX k (.inr hk)).2), fun k hk => ?_, fun k hk => ?_, fun k hk => ?_, fun k hk h1 => ?_, fun k hk => ?_⟩, q3⟩, p5.below (fun k hk => ?_) hB⟩
  · refine ⟨p1.kv.dj k hk, fun h1 => ?_, fun h1 => p1.dj k h1 (.inl hk), fun h1 => ?_⟩
    · rcases p2 k hk with hk2 | hk2
      · exact (d1 k hk2).2.1 h1
      · have := (bb k (.inr (.inr (.inl h1)))).2; omega
    · rcases p2 k hk with hk2 | hk2
      · exact (d1 k hk2).2.2.2 h1
      · have := (bb k (.inr (.inr (.inr (.inr h1))))).2; omega
  · refine ⟨fun h1 => ?_, fun h1 => p1.dj k h1 (.inr hk), fun h1 => ?_⟩
    · rcases p3 k hk with hk2 | hk2
      · exact (d2 k hk2).1 h1
      · have := (bb k (.inr (.inr (.inl h1)))).2; omega
    · rcases p3 k hk with hk2 | hk2
      · exact (d2 k hk2).2.2 h1
      · have := (bb k (.inr (.inr (.inr (.inr h1))))).2; omega
  · refine ⟨fun h1 => ?_, (d3 k hk).2⟩
    rcases p4 k h1 with hk2 | hk2
    · exact (d3 k hk).1 hk2
    · have := (bb k (.inr (.inr (.inl hk)))).2; omega
  · rcases p4 k hk with hk2 | hk2
    · exact d4 k hk2 h1
    · have := (bb k (.inr (.inr (.inr (.inr h1))))).2; omega
  · have hsz := p5.size
    rcases hk with hk | hk | hk | hk | hk
    · refine ⟨?_, p1.kv.ld k hk⟩
      rcases p2 k hk with hk | hk
      · exact (bb k (.inl hk)).1
      · omega
    · refine ⟨?_, p1.kv.ls k hk⟩
      rcases p3 k hk with hk | hk
      · exact (bb k (.inr (.inl hk))).1
      · omega
    · have := bb k (.inr (.inr (.inl hk))); omega
    · refine ⟨?_, p1.lr k hk⟩
      rcases p4 k hk with hk | hk
      · exact (bb k (.inr (.inr (.inr (.inl hk))))).1
      · omega
    · have := bb k (.inr (.inr (.inr (.inr hk)))); omega
  · rcases hk with (hk | hk) | hk
    · exact (bb k (.inl hk)).1
    · exact (bb k (.inr (.inl hk))).1
    · rw [hk]; exact (bb s.c (.inr (.inr (.inr (.inl a4.t))))).1
theorem sum_put (L : List En) (m : Int) (k v : ByteArray) : sumL (putL L m k v) ≤ sumL L + (k.size + v.size) := by
  unfold putL
  rw [sumL_app]
  have h1 : sumL [(k, v)] = k.size + v.size := by simp [sumL]
  rw [h1]
  split
  · have := sumL_sub (dropL_sub L k); omega
  · have h2 := sumL_sub (dropL_sub (L.drop ((L.length : Int) + 1 - m).toNat) k)
    have h3 := sumL_sub (List.drop_sublist ((L.length : Int) + 1 - m).toNat L)
    omega
theorem ref_sum {L : List En} (hL : ∀ e ∈ L, e.1.size ≤ 4096) (m z free : Int) (c : Cl) (hk : c.key.size ≤ 4096) (hv : c.val.size ≤ 4096) : sumL (refOut L m z free c).2.1 ≤ sumL L + (c.key.size + c.val.size) := by
  have kL : ∀ e ∈ L, e.1.size ≤ 1073741824 := fun e he => by have := hL e he; omega
  have h0 : sumL L ≤ sumL L + (c.key.size + c.val.size) := Nat.le_add_right _ _
  unfold refOut
  split
  · unfold refPutOut
    split
    · exact h0
    · split
      · exact h0
      · unfold writeOut
        split
        · exact h0
        · show sumL (doAll L (putRs L m c.key c.val)) ≤ _
          rw [doAll_put L m c.key c.val (by omega) (by omega) kL]
          exact sum_put L m c.key c.val
  · split
    · unfold refEvictOut
      split
      · exact h0
      · split
        · exact h0
        · unfold writeOut
          split
          · exact h0
          · show sumL (doAll L (evictRs L c.n)) ≤ _
            unfold evictRs
            rw [doAll_gone _ _ kL]
            have := sumL_sub (List.drop_sublist c.n.toNat L)
            omega
    · split
      · exact h0
      · split
        · unfold refCompOut
          split <;> exact h0
        · exact h0
theorem ref_z {L : List En} {N : Nat} (b : Bd N L) (hl : L.length ≤ 20) (m z free : Int) (c : Cl) (hk : c.key.size ≤ 4096) (hv : c.val.size ≤ 4096) (hz : 0 ≤ z) : 0 ≤ (refOut L m z free c).2.2 ∧ (refOut L m z free c).2.2 ≤ z + 172935 := by
  have z1 := bytesN_bound _ 21 8227 (by have := putRs_len L m c.key c.val; omega) (b.putRs m hk hv)
  have z3 := bytesN_bound _ 21 8227 (by have := ev_len L c.n; omega) (b.evRs c.n)
  have z5 := bytesN_bound (L.map putB) 21 8227 (by rw [List.length_map]; omega) b.cpRs
  unfold refOut
  split
  · unfold refPutOut
    split
    · dsimp only; omega
    · split
      · dsimp only; omega
      · unfold writeOut
        split <;> (dsimp only; omega)
  · split
    · unfold refEvictOut
      split
      · dsimp only; omega
      · split
        · dsimp only; omega
        · unfold writeOut
          split <;> (dsimp only; omega)
    · split
      · dsimp only; omega
      · split
        · unfold refCompOut
          split <;> (dsimp only; omega)
        · dsimp only; omega
end Go.Proofs.Ytbdlmdmbaajcmaa
