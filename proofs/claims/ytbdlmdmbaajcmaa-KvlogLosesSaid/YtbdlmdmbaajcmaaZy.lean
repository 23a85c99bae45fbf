/- Both stores, all from a place on. -/
import Derived.Test.YtbdlmdmbaajcmaaZx
namespace Go.Proofs.Ytbdlmdmbaajcmaa
set_option linter.unusedVariables false
set_option linter.unusedSimpArgs false
open Go.ChangeShapes Go.WideShapes Go.ChangeAt Go.RowKit

theorem ref_six {L : List En} {m z f : Int} {c : Cl} (h : (refOut L m z f c).1 = 6) : (refOut L m z f c).2.1 = L := by
  obtain ⟨X, hX⟩ : ∃ X, X = refOut L m z f c := ⟨_, rfl⟩
  rw [← hX] at h ⊢
  unfold refOut refPutOut refEvictOut refCompOut writeOut at hX
  repeat' split at hX
  all_goals (subst hX; first | rfl | (exact absurd (show ((0 : Int) = 6) from h) (by decide)))
def noFit (L : List En) (m f : Int) (c : Cl) : Prop := f < (bytesN (putRs L m c.key c.val) : Int) ∨ f < (bytesN (evictRs L c.n) : Int) ∨ f < (bytesN (L.map putB) : Int)
theorem ref_same {L : List En} {m z f z2 f2 : Int} {c : Cl} (h : (refOut L m z f c).1 ≠ 6) (h2 : ¬ noFit L m f2 c) : (refOut L m z2 f2 c).2.1 = (refOut L m z f c).2.1 := by
  unfold noFit at h2
  have q1 : ¬ f2 < (bytesN (putRs L m c.key c.val) : Int) := fun q => h2 (.inl q)
  have q2 : ¬ f2 < (bytesN (evictRs L c.n) : Int) := fun q => h2 (.inr (.inl q))
  have q3 : ¬ f2 < (bytesN (L.map putB) : Int) := fun q => h2 (.inr (.inr q))
  unfold refOut refPutOut refEvictOut refCompOut writeOut at *
  simp only [if_neg q1, if_neg q2, if_neg q3]
  by_cases k0 : c.kind = 0
  · simp only [if_pos k0] at h ⊢
    by_cases k1 : 65536 < (putB (c.key, c.val)).size
    · simp only [if_pos k1]
    · simp only [if_neg k1] at h ⊢
      by_cases k2 : getL L c.key = (c.val, true)
      · simp only [if_pos k2]
      · simp only [if_neg k2] at h ⊢
        by_cases k3 : f < (bytesN (putRs L m c.key c.val) : Int)
        · simp only [if_pos k3] at h; exact absurd rfl h
        · simp only [if_neg k3]
  · simp only [if_neg k0] at h ⊢
    by_cases k1 : c.kind = 1
    · simp only [if_pos k1] at h ⊢
      by_cases k2 : c.n < 0
      · simp only [if_pos k2]
      · simp only [if_neg k2] at h ⊢
        by_cases k3 : (evictRs L c.n).length = 0
        · simp only [if_pos k3]
        · simp only [if_neg k3] at h ⊢
          by_cases k4 : f < (bytesN (evictRs L c.n) : Int)
          · simp only [if_pos k4] at h; exact absurd rfl h
          · simp only [if_neg k4]
    · simp only [if_neg k1] at h ⊢
      by_cases k2 : c.kind = 2
      · simp only [if_pos k2]
      · simp only [if_neg k2] at h ⊢
        by_cases k3 : c.kind = 3
        · simp only [if_pos k3] at h ⊢
          by_cases k4 : f < (bytesN (L.map putB) : Int)
          · simp only [if_pos k4] at h; exact absurd rfl h
          · simp only [if_neg k4]
        · simp only [if_neg k3]
theorem fits {L : List En} {M N : Nat} (b : Bd N L) (hl : L.length ≤ M) {m f : Int} {c : Cl} (hk : c.key.size ≤ 4096) (hv : c.val.size ≤ 4096) (hf : (((M + 1) * 8235 : Nat) : Int) ≤ f) : ¬ noFit L m f c := by
  have z1 := bytesN_bound _ (M + 1) 8227 (by have := putRs_len L m c.key c.val; omega) (b.putRs m hk hv)
  have z3 := bytesN_bound _ (M + 1) 8227 (by have := ev_len L c.n; omega) (b.evRs c.n)
  have z5 := bytesN_bound (L.map putB) (M + 1) 8227 (by rw [List.length_map]; omega) b.cpRs
  unfold noFit
  omega
/-- A store, all of it from B on. -/
structure Duo (B b d : Nat) (nm : ByteArray) (m : Int) (h : Hd) (A : List Ab) (L : List En) (w : World) : Prop where
  s : ∃ TD TS, Kv TD TS b d nm m h A L w ∧ (∀ k, TD k → B ≤ k) ∧ (∀ k, TS k → B ≤ k)
/-- And the document's. -/
structure Tri (B b d : Nat) (nm : ByteArray) (m : Int) (h : Hd) (A : List Ab) (L : List En) (b2 : Nat) (m2 : Int) (L2 : List En) (z : Int) (w : World) : Prop where
  s : ∃ TD TS TR, Pair TD TS TR b d nm m h A L b2 m2 L2 z w ∧ (∀ k, TD k → B ≤ k) ∧ (∀ k, TS k → B ≤ k) ∧ (∀ k, TR k → B ≤ k)
section
variable {B b d b2 : Nat} {nm : ByteArray} {m m2 z r : Int} {h : Hd} {A : List Ab} {L L2 : List En} {w w' : World} {n zz N : Nat}
theorem Duo.below (k : Duo B b d nm m h A L w) (hB : Below w.heap.size w w') : Duo B b d nm m h A L w' := by
  obtain ⟨TD, TS, k1, k2⟩ := k.s
  exact ⟨TD, TS, k1.below hB, k2⟩
theorem Tri.below (k : Tri B b d nm m h A L b2 m2 L2 z w) (hB : Below w.heap.size w w') : Tri B b d nm m h A L b2 m2 L2 z w' := by
  obtain ⟨TD, TS, TR, k1, k2⟩ := k.s
  exact ⟨TD, TS, TR, k1.below hB, k2⟩
theorem Tri.duo (k : Tri B b d nm m h A L b2 m2 L2 z w) : Duo B b d nm m h A L w := by
  obtain ⟨TD, TS, TR, k1, k2, k3, k4⟩ := k.s
  exact ⟨TD, TS, k1.kv, k2, k3⟩
/-- A store of the document's that was made behind. -/
theorem Duo.tri (k : Duo B b d nm m h A L w) (hB : Below w.heap.size w w') (hs : B ≤ w.heap.size) (rs : Rs (fun q => w.heap.size ≤ q ∧ q < w'.heap.size) b2 m2 L2 z w') : Tri B b d nm m h A L b2 m2 L2 z w' := by
  obtain ⟨TD, TS, k1, k2, k3⟩ := k.s
  refine ⟨TD, TS, _, ⟨k1.below hB, rs, fun q hq ho => ?_, fun q hq => hq.2⟩, k2, k3, fun q hq => by omega⟩
  rcases ho with ho | ho
  · have := k1.ld q ho; omega
  · have := k1.ls q ho; omega
/-- The list of the document's store is another. -/
theorem Tri.list (k : Tri B b d nm m h A L b2 m2 L2 z w) : ∃ lv p c, lv = .slice p L2.length c ∧ w.heap[b2]? = some (.cells (rsA m2 lv z) 34 (0, 0)) ∧ LAt 2 enV w lv L2 := by
  obtain ⟨TD, TS, TR, k1, _⟩ := k.s
  obtain ⟨lv, h1, h2⟩ := k1.rs.f
  obtain ⟨p, c, hv⟩ := h2.slice
  exact ⟨lv, p, c, hv, h1, h2.lat⟩
theorem does_tri (k : Tri B b d nm m h A L b2 m2 L2 z w) (hB : B ≤ w.heap.size) (so : Sol r n nm h A L zz) (hn : n ≤ 1000) (g : goodN nm = true) (g2 : goodN (nm ++ wNew) = true) (bL : Bd 200 L) (bL2 : Bd 200 L2) (hm : 1 ≤ m ∧ m ≤ 4096) (hm2 : 1 ≤ m2 ∧ m2 ≤ 4096) (hzz : 0 ≤ z ∧ z ≤ 1099511627776) (c : Cl) (hk : c.key.size ≤ 4096) (hv : c.val.size ≤ 4096) (free : Int) :
    Calls Try.prog 13 #[.pointer (some ⟨b, 0, none⟩), .pointer (some ⟨b2, 0, none⟩), cA c, .int .i64 free] w fun e w' => e = .returned (.tuple #[.int .i64 (refOut L m zz (r - zz) c).1, .int .i64 (refOut L2 m2 z free c).1]) ∧ (∃ h2 A2 z3, Tri B b d nm m h2 A2 (refOut L m zz (r - zz) c).2.1 b2 m2 (refOut L2 m2 z free c).2.1 (refOut L2 m2 z free c).2.2 w' ∧ Sol r (n + 3) nm h2 A2 (refOut L m zz (r - zz) c).2.1 z3 ∧ (refOut L m zz (r - zz) c).2.2 = (z3 : Int)) ∧ Below B w w' := by
  obtain ⟨TD, TS, TR, k1, k2, k3, k4⟩ := k.s
  obtain ⟨h2, A2, z3, q1, q2, q3, q4⟩ := code_one so g g2 bL m c hk hv
  have hns : nm.size ≤ 28 := by
    have := (goodN_size g2).2
    rw [ByteArray.size_append] at this
    have : wNew.size = 4 := rfl
    omega
  refine (does_any k1 so.ok (by omega) hns bL bL2 hm hm2 hzz c hk hv free).mono ?_
  rintro e w' ⟨TD', TS', TR', he, p1, p2, p3, p4, p5⟩
  rw [q2, q1] at p1
  rw [q1] at he
  refine ⟨he, ⟨h2, A2, z3, ⟨TD', TS', TR', p1, fun q hq => ?_, fun q hq => ?_, fun q hq => ?_⟩, q3, q4⟩, p5.below (fun q hq => ?_) hB⟩
  · rcases p2 q hq with hq | hq
    · exact k2 q hq
    · omega
  · rcases p3 q hq with hq | hq
    · exact k3 q hq
    · omega
  · rcases p4 q hq with hq | hq
    · exact k4 q hq
    · omega
  · rcases hq with (hq | hq) | hq
    · exact k2 q hq
    · exact k3 q hq
    · rw [hq]; exact k4 _ k1.rs.t
/-- A store, all of it from B on, and nothing of it in X. -/
structure DuoX (B : Nat) (X : Nat → Prop) (b d : Nat) (nm : ByteArray) (m : Int) (h : Hd) (A : List Ab) (L : List En) (w : World) : Prop where
  s : ∃ TD TS, Kv TD TS b d nm m h A L w ∧ (∀ k, TD k → B ≤ k ∧ ¬ X k) ∧ (∀ k, TS k → B ≤ k ∧ ¬ X k)
  x : ∀ k, X k → B ≤ k ∧ k < w.heap.size
theorem DuoX.duo {X : Nat → Prop} (k : DuoX B X b d nm m h A L w) : Duo B b d nm m h A L w := by
  obtain ⟨TD, TS, k1, k2, k3⟩ := k.s
  exact ⟨TD, TS, k1, fun q hq => (k2 q hq).1, fun q hq => (k3 q hq).1⟩
theorem DuoX.below {X : Nat → Prop} (k : DuoX B X b d nm m h A L w) (hB : Below w.heap.size w w') : DuoX B X b d nm m h A L w' := by
  obtain ⟨TD, TS, k1, k2⟩ := k.s
  exact ⟨⟨TD, TS, k1.below hB, k2⟩, fun q hq => ⟨(k.x q hq).1, Nat.lt_of_lt_of_le (k.x q hq).2 hB.size⟩⟩
theorem DuoX.poke {X : Nat → Prop} (k : DuoX B X b d nm m h A L w) {g i : Nat} {v : Value} (hg : X g) : DuoX B X b d nm m h A L (w.setCell ⟨g, i, none⟩ v) := by
  obtain ⟨TD, TS, k1, k2, k3⟩ := k.s
  have hk : Kept (fun q => q = g) w (w.setCell ⟨g, i, none⟩ v) := kept_cell rfl
  refine ⟨⟨TD, TS, ⟨k1.dv.kept hk (fun q hq e => (k2 q hq).2 (e ▸ hg)), k1.st.kept hk (fun q hq e => (k3 q hq).2 (e ▸ hg)), k1.dj, fun q hq => Nat.lt_of_lt_of_le (k1.ld q hq) hk.size, fun q hq => Nat.lt_of_lt_of_le (k1.ls q hq) hk.size⟩, k2, k3⟩, fun q hq => ⟨(k.x q hq).1, Nat.lt_of_lt_of_le (k.x q hq).2 hk.size⟩⟩
theorem Rs.same {X : Nat → Prop} (k : Rs X b2 m2 L2 z w) (h : ∀ q, X q → w'.heap[q]? = w.heap[q]?) : Rs X b2 m2 L2 z w' := by
  obtain ⟨lv, h1, h2⟩ := k.f
  obtain ⟨bb, q1, q2⟩ := h2.f
  exact ⟨⟨lv, (h _ k.t).trans h1, bb, ownG_same q1 (fun g hg => h g (q2 g hg)), q2⟩, k.t⟩
/-- It is opened again. -/
theorem open_x {X : Nat → Prop} (k : DuoX B X b d nm m h A L w) (hB : B ≤ w.heap.size) (so : Sol r n nm h A L zz) (hn : n ≤ 1000) (g : goodN nm = true) (g2 : goodN (nm ++ wNew) = true) (hm : 1 ≤ m ∧ m ≤ 4096) :
    Calls Try.prog 12 #[.pointer (some ⟨d, 0, none⟩), .string nm, .int .i64 m] w fun e w' => ∃ b3, e = .returned (.tuple #[.pointer (some ⟨b3, 0, none⟩), .int .i64 0]) ∧ DuoX B X b3 d nm m h A L w' ∧ Below B w w' ∧ ∀ q, X q → w'.heap[q]? = w.heap[q]? := by
  obtain ⟨TD, TS, k1, k2, k3⟩ := k.s
  have hns : nm.size ≤ 28 := by
    have := (goodN_size g2).2
    rw [ByteArray.size_append] at this
    have : wNew.size = 4 := rfl
    omega
  have hne : nm ≠ ⟨#[]⟩ := fun e => by
    have := (goodN_size g).1
    rw [e] at this
    simp [ByteArray.size] at this
  refine (open_any k1.dv k1.ld so.ok (by omega) nm m hne hns hm).mono ?_
  intro e w' ho
  rw [so.o.open so.k g g2] at ho
  rcases ho with ⟨_, b3, TD', TS', he, p1, p2, p3, p4⟩ | ⟨ho, _⟩
  · refine ⟨b3, he, ⟨⟨TD', TS', p1, fun q hq => ?_, fun q hq => ?_⟩, fun q hq => ⟨(k.x q hq).1, Nat.lt_of_lt_of_le (k.x q hq).2 p4.size⟩⟩, p4.below (fun q hq => (k2 q hq).1) hB, fun q hq => p4.block q (k.x q hq).2 (fun ht => (k2 q ht).2 hq)⟩
    · rcases p2 q hq with hq | hq
      · exact k2 q hq
      · exact ⟨by omega, fun hx => by have := (k.x q hx).2; omega⟩
    · have hq := p3 q hq
      exact ⟨by omega, fun hx => by have := (k.x q hx).2; omega⟩
  · exact absurd rfl ho
/-- A store of the document's that was just made: the older rows stay. -/
theorem does_new (k : Duo B b d nm m h A L w) {w0 : World} (hB0 : Below w.heap.size w w0) (rs : Rs (fun q => w.heap.size ≤ q ∧ q < w0.heap.size) b2 m2 L2 z w0) (hB : B ≤ w.heap.size) (so : Sol r n nm h A L zz) (hn : n ≤ 1000) (g : goodN nm = true) (g2 : goodN (nm ++ wNew) = true) (bL : Bd 200 L) (bL2 : Bd 200 L2) (hm : 1 ≤ m ∧ m ≤ 4096) (hm2 : 1 ≤ m2 ∧ m2 ≤ 4096) (hzz : 0 ≤ z ∧ z ≤ 1099511627776) (c : Cl) (hk : c.key.size ≤ 4096) (hv : c.val.size ≤ 4096) (free : Int) :
    Calls Try.prog 13 #[.pointer (some ⟨b, 0, none⟩), .pointer (some ⟨b2, 0, none⟩), cA c, .int .i64 free] w0 fun e w' => e = .returned (.tuple #[.int .i64 (refOut L m zz (r - zz) c).1, .int .i64 (refOut L2 m2 z free c).1]) ∧ (∃ h2 A2 z3 X, DuoX B X b d nm m h2 A2 (refOut L m zz (r - zz) c).2.1 w' ∧ Rs X b2 m2 (refOut L2 m2 z free c).2.1 (refOut L2 m2 z free c).2.2 w' ∧ (∀ q, w.heap.size ≤ q → q < w0.heap.size → X q) ∧ Sol r (n + 3) nm h2 A2 (refOut L m zz (r - zz) c).2.1 z3) ∧ Below B w0 w' ∧ ∀ q, w.heap.size ≤ q → q < w0.heap.size → q ≠ b2 → w'.heap[q]? = w0.heap[q]? := by
  obtain ⟨TD, TS, k1, k2, k3⟩ := k.s
  obtain ⟨h2, A2, z3, q1, q2, q3, q4⟩ := code_one so g g2 bL m c hk hv
  have hns : nm.size ≤ 28 := by
    have := (goodN_size g2).2
    rw [ByteArray.size_append] at this
    have : wNew.size = 4 := rfl
    omega
  have hbs := hB0.size
  have pr : Pair TD TS (fun q => w.heap.size ≤ q ∧ q < w0.heap.size) b d nm m h A L b2 m2 L2 z w0 := ⟨k1.below hB0, rs, fun q hq ho => by
    rcases ho with ho | ho
    · have := k1.ld q ho; omega
    · have := k1.ls q ho; omega, fun q hq => hq.2⟩
  refine (does_any pr so.ok (by omega) hns bL bL2 hm hm2 hzz c hk hv free).mono ?_
  rintro e w' ⟨TD', TS', TR', he, p1, p2, p3, p4, p5⟩
  rw [q2, q1] at p1
  rw [q1] at he
  have hX : ∀ q, TR' q ∨ (w.heap.size ≤ q ∧ q < w0.heap.size) → B ≤ q ∧ q < w'.heap.size := fun q hq => by
    rcases hq with hq | hq
    · refine ⟨?_, p1.lr q hq⟩
      rcases p4 q hq with hq | hq <;> omega
    · have := p5.size; omega
  refine ⟨he, ⟨h2, A2, z3, fun q => TR' q ∨ (w.heap.size ≤ q ∧ q < w0.heap.size), ⟨⟨TD', TS', p1.kv, fun q hq => ?_, fun q hq => ?_⟩, hX⟩, p1.rs.mono (fun q hq => .inl hq), fun q h1 h2 => .inr ⟨h1, h2⟩, q3⟩, p5.below (fun q hq => ?_) (by omega), fun q h1 h2 h3 => p5.block q h2 (fun ho => ?_)⟩
  · have hb : B ≤ q := by
      rcases p2 q hq with hq | hq
      · exact k2 q hq
      · omega
    refine ⟨hb, fun hx => ?_⟩
    rcases hx with hx | hx
    · exact p1.dj q hx (.inl hq)
    · rcases p2 q hq with hq | hq
      · have := k1.ld q hq; omega
      · omega
  · have hb : B ≤ q := by
      rcases p3 q hq with hq | hq
      · exact k3 q hq
      · omega
    refine ⟨hb, fun hx => ?_⟩
    rcases hx with hx | hx
    · exact p1.dj q hx (.inr hq)
    · rcases p3 q hq with hq | hq
      · have := k1.ls q hq; omega
      · omega
  · rcases hq with (hq | hq) | hq
    · exact k2 q hq
    · exact k3 q hq
    · have := rs.t.1; omega
  · rcases ho with (ho | ho) | ho
    · have := k1.ld q ho; omega
    · have := k1.ls q ho; omega
    · exact h3 ho
theorem has_duo (k : Duo B b d nm m h A L w) (bL : Bd N L) (hN : N ≤ 1048576) {u : Value} (hu : LAt 2 enV w u L2) (hl2 : L2.length ≤ 1048576) :
    Calls Try.prog 14 #[.pointer (some ⟨b, 0, none⟩), u] w fun e w' => e = .returned (.bool (decide (L = L2))) ∧ Below w.heap.size w w' := by
  obtain ⟨TD, TS, k1, k2⟩ := k.s
  exact has_any k1.st bL.nd (Nat.le_trans bL.l hN) L2 u hu hl2
theorem keys_duo (k : Duo B b d nm m h A L w) (bL : Bd N L) (hN : N ≤ 1048576) : Calls Try.prog 22 #[.pointer (some ⟨b, 0, none⟩)] w (StrsEnd (L.map (·.1)) w) := by
  obtain ⟨TD, TS, k1, k2⟩ := k.s
  exact keys_any k1.st (by have := bL.l; omega)
theorem get_duo (k : Duo B b d nm m h A L w) (bL : Bd N L) (hN : N ≤ 1048576) (key : ByteArray) : Calls Try.prog 17 #[.pointer (some ⟨b, 0, none⟩), .string key] w fun e w' => e = .returned (.tuple #[.string (getL L key).1, .bool (getL L key).2]) ∧ Below w.heap.size w w' := by
  obtain ⟨TD, TS, k1, k2⟩ := k.s
  exact get_any k1.st (by have := bL.l; omega) key
/-- It is opened again. -/
theorem open_tri (k : Tri B b d nm m h A L b2 m2 L2 z w) (hB : B ≤ w.heap.size) (so : Sol r n nm h A L zz) (hn : n ≤ 1000) (g : goodN nm = true) (g2 : goodN (nm ++ wNew) = true) (hm : 1 ≤ m ∧ m ≤ 4096) :
    Calls Try.prog 12 #[.pointer (some ⟨d, 0, none⟩), .string nm, .int .i64 m] w fun e w' => ∃ b3, e = .returned (.tuple #[.pointer (some ⟨b3, 0, none⟩), .int .i64 0]) ∧ Tri B b3 d nm m h A L b2 m2 L2 z w' ∧ Below B w w' := by
  obtain ⟨TD, TS, TR, k1, k2, k3, k4⟩ := k.s
  have hns : nm.size ≤ 28 := by
    have := (goodN_size g2).2
    rw [ByteArray.size_append] at this
    have : wNew.size = 4 := rfl
    omega
  have hne : nm ≠ ⟨#[]⟩ := fun e => by
    have := (goodN_size g).1
    rw [e] at this
    simp [ByteArray.size] at this
  refine (open_any k1.kv.dv k1.kv.ld so.ok (by omega) nm m hne hns hm).mono ?_
  intro e w' ho
  rw [so.o.open so.k g g2] at ho
  rcases ho with ⟨_, b3, TD', TS', he, p1, p2, p3, p4⟩ | ⟨ho, _⟩
  · refine ⟨b3, he, ⟨TD', TS', TR, ⟨p1, k1.rs.kept p4 (fun q hq ho => k1.dj q hq (.inl ho)), fun q hq ho => ?_, fun q hq => Nat.lt_of_lt_of_le (k1.lr q hq) p4.size⟩, fun q hq => ?_, fun q hq => ?_, k4⟩, p4.below k2 hB⟩
    · have := k1.lr q hq
      rcases ho with ho | ho
      · rcases p2 q ho with ho | ho
        · exact k1.dj q hq (.inl ho)
        · omega
      · have := p3 q ho; omega
    · rcases p2 q hq with hq | hq
      · exact k2 q hq
      · omega
    · have := p3 q hq; omega
  · exact absurd rfl ho
/-- A device that is new, and a store on it. -/
theorem start_duo {w0 : World} {room : Int} (h1 : 0 ≤ room) (h2 : room ≤ 1048576) (dv : DV (fun k => w0.heap.size ≤ k ∧ k < w.heap.size) d (newH room) [] w) (hB : w0.heap.size ≤ w.heap.size) (m : Int) (hm : 1 ≤ m ∧ m ≤ 4096) :
    Calls Try.prog 12 #[.pointer (some ⟨d, 0, none⟩), .string kN, .int .i64 m] w fun e w' => ∃ b, e = .returned (.tuple #[.pointer (some ⟨b, 0, none⟩), .int .i64 0]) ∧ Duo w0.heap.size b d kN m (newH room) [] [] w' ∧ Below w0.heap.size w w' := by
  refine (open_new h1 h2 dv (fun k hk => hk.2) m hm).mono ?_
  rintro e w' ⟨b, TD, TS, he, kv, q1, q2, q3⟩
  refine ⟨b, he, ⟨TD, TS, kv, fun k hk => ?_, fun k hk => ?_⟩, q3.below (fun k hk => hk.1) hB⟩
  · rcases q1 k hk with hk | hk
    · exact hk.1
    · omega
  · have := q2 k hk; omega
end
theorem start_sol (room : Int) (h1 : 0 ≤ room) (h2 : room ≤ 1048576) (nm : ByteArray) : Sol room 0 nm (newH room) [] [] 0 := ⟨new_lit room h1 h2, (new_ok room h1 h2).acts, .inl ⟨rfl, rfl, rfl⟩, h1, h2⟩
end Go.Proofs.Ytbdlmdmbaajcmaa
