/- A call on both, of whatever kind. -/
import Derived.Test.YtbdlmdmbaajcmaaZw
namespace Go.Proofs.Ytbdlmdmbaajcmaa
set_option linter.unusedVariables false
set_option linter.unusedSimpArgs false
open Go.ChangeShapes Go.WideShapes Go.ChangeAt Go.RowKit

/-- What a call makes of the document's store. -/
def refOut (L : List En) (m z free : Int) (c : Cl) : Int × List En × Int :=
  if c.kind = 0 then refPutOut L m z c.key c.val free else if c.kind = 1 then refEvictOut L z c.n free else if c.kind = 2 then (0, L, z) else if c.kind = 3 then refCompOut L z free else (0, L, z)
/-- What a call makes of the code's. -/
def codeOut (h : Hd) (A : List Ab) (nm : ByteArray) (m : Int) (L : List En) (c : Cl) : (Int × Hd × List Ab) × List En :=
  if c.kind = 0 then putOut h A nm m L c.key c.val else if c.kind = 1 then evictOut h A nm L c.n else if c.kind = 2 then (syncOut h A nm, L) else if c.kind = 3 then (compOut h A nm L, L) else ((0, h, A), L)
/-- Bounds of a list of entries. -/
structure Bd (N : Nat) (L : List En) : Prop where
  l : L.length ≤ N
  s : ∀ e ∈ L, e.1.size ≤ 4096 ∧ e.2.size ≤ 4096
  nd : (L.map (·.1)).Nodup
theorem total_bound : ∀ (R : List ByteArray) (N : Nat), (∀ r ∈ R, r.size ≤ N) → G.total R ≤ R.length * N
  | [], N, _ => by simp [G.total]
  | r :: R, N, h => by
    have h1 := total_bound R N (fun x hx => h x (List.mem_cons_of_mem _ hx))
    have h2 := h r List.mem_cons_self
    show r.size + G.total R ≤ _
    rw [List.length_cons, Nat.add_mul]
    omega
theorem bytesN_bound (R : List ByteArray) (M N : Nat) (hl : R.length ≤ M) (h : ∀ r ∈ R, r.size ≤ N) : bytesN R ≤ M * (N + 8) := by
  have h1 := total_bound R N h
  have h2 : R.length * (N + 8) ≤ M * (N + 8) := Nat.mul_le_mul_right _ hl
  have h3 : R.length * (N + 8) = R.length * N + R.length * 8 := Nat.mul_add ..
  unfold bytesN
  omega
theorem Bd.putRs {N : Nat} {L : List En} (b : Bd N L) (m : Int) {k v : ByteArray} (hk : k.size ≤ 4096) (hv : v.size ≤ 4096) : ∀ r ∈ putRs L m k v, r.size ≤ 8227 := fun r hr => by
  rcases putRs_mem (N := 4096) (fun e he => (b.s e he).1) r hr with h | h
  · omega
  · rw [h, putB_size]; show 35 + k.size + v.size ≤ _; omega
theorem Bd.evRs {N : Nat} {L : List En} (b : Bd N L) (n : Int) : ∀ r ∈ evictRs L n, r.size ≤ 8227 := fun r hr => by
  obtain ⟨e, he, rfl⟩ := List.mem_map.1 hr
  rw [goneB_size]
  have := b.s e (List.mem_of_mem_take he)
  omega
theorem Bd.cpRs {N : Nat} {L : List En} (b : Bd N L) : ∀ r ∈ L.map putB, r.size ≤ 8227 := fun r hr => by
  obtain ⟨e, he, rfl⟩ := List.mem_map.1 hr
  rw [putB_size]
  have := b.s e he
  omega
theorem ev_len (L : List En) (n : Int) : (evictRs L n).length ≤ L.length := by unfold evictRs; rw [List.length_map, List.length_take]; omega
theorem ev_known {N : Nat} {L : List En} (b : Bd N L) (n : Int) : ∀ r ∈ evictRs L n, ∀ L2, (doC L2 r).isSome = true := fun r hr L2 => by
  obtain ⟨e, he, rfl⟩ := List.mem_map.1 hr
  have := b.s e (List.mem_of_mem_take he)
  exact known_gone e.1 (by omega) L2
theorem put_known {N : Nat} {L : List En} (b : Bd N L) (m : Int) {k v : ByteArray} (hk : k.size ≤ 4096) (hv : v.size ≤ 4096) : ∀ r ∈ putRs L m k v, ∀ L2, (doC L2 r).isSome = true := fun r hr L2 => by
  unfold putRs at hr
  rcases List.mem_append.1 hr with h | h
  · cases hw : whereL L k with
    | some i => rw [hw] at h; cases h
    | none =>
      rw [hw] at h
      obtain ⟨e, he, rfl⟩ := List.mem_map.1 h
      have := b.s e (List.mem_of_mem_take he)
      exact known_gone e.1 (by omega) L2
  · rw [List.mem_singleton.1 h]
    exact known_put k v (by omega) (by omega) L2
theorem Bd.drop {N : Nat} {L : List En} (b : Bd N L) (n : Nat) : Bd N (L.drop n) :=
  ⟨by have := b.l; rw [List.length_drop]; omega, fun e he => b.s e (List.mem_of_mem_drop he), b.nd.sublist ((List.drop_sublist _ _).map _)⟩
theorem Bd.put {N : Nat} {L : List En} (b : Bd N L) (m : Int) {k v : ByteArray} (hk : k.size ≤ 4096) (hv : v.size ≤ 4096) : Bd (N + 1) (putL L m k v) := by
  have hX : ∀ X : List En, (∀ e ∈ X, e.1.size ≤ 4096 ∧ e.2.size ≤ 4096) → X.length ≤ N → (X.map (·.1)).Nodup → Bd (N + 1) (dropL X k ++ [(k, v)]) := fun X h1 h2 h3 => by
    refine ⟨by rw [List.length_append, List.length_singleton]; have := dropL_len X k; omega, fun e he => ?_, putN_nd h3⟩
    rcases List.mem_append.1 he with he | he
    · exact h1 e ((dropL_sub X k).subset he)
    · rw [List.mem_singleton.1 he]; exact ⟨hk, hv⟩
  unfold putL
  split
  · exact hX L b.s b.l b.nd
  · have q := b.drop ((L.length : Int) + 1 - m).toNat
    exact hX _ q.s q.l q.nd
theorem Bd.mono {N M : Nat} {L : List En} (b : Bd N L) (h : N ≤ M) : Bd M L := ⟨Nat.le_trans b.l h, b.s, b.nd⟩
theorem ref_bd {N : Nat} {L : List En} (b : Bd N L) (m z free : Int) (c : Cl) (hk : c.key.size ≤ 4096) (hv : c.val.size ≤ 4096) : Bd (N + 1) (refOut L m z free c).2.1 := by
  have b1 := b.mono (Nat.le_succ N)
  have kL : ∀ e ∈ L, e.1.size ≤ 1073741824 := fun e he => by have := b.s e he; omega
  unfold refOut
  split
  · unfold refPutOut
    split
    · exact b1
    · split
      · exact b1
      · unfold writeOut
        split
        · exact b1
        · show Bd (N + 1) (doAll L (putRs L m c.key c.val))
          rw [doAll_put L m c.key c.val (by omega) (by omega) kL]
          exact b.put m hk hv
  · split
    · unfold refEvictOut
      split
      · exact b1
      · split
        · exact b1
        · unfold writeOut
          split
          · exact b1
          · show Bd (N + 1) (doAll L (evictRs L c.n))
            unfold evictRs
            rw [doAll_gone _ _ kL]
            exact (b.drop _).mono (Nat.le_succ N)
    · split
      · exact b1
      · split
        · unfold refCompOut
          split <;> exact b1
        · exact b1
theorem ref_len {L : List En} (hkL : ∀ e ∈ L, e.1.size ≤ 4096) (m z free : Int) (c : Cl) (hm : 1 ≤ m) (hl : (L.length : Int) ≤ m) (hk : c.key.size ≤ 4096) (hv : c.val.size ≤ 4096) : ((refOut L m z free c).2.1.length : Int) ≤ m := by
  have kL : ∀ e ∈ L, e.1.size ≤ 1073741824 := fun e he => by have := hkL e he; omega
  unfold refOut
  split
  · unfold refPutOut
    split
    · exact hl
    · split
      · exact hl
      · unfold writeOut
        split
        · exact hl
        · show ((doAll L (putRs L m c.key c.val)).length : Int) ≤ m
          rw [doAll_put L m c.key c.val (by omega) (by omega) kL]
          exact (putL_len L m c.key c.val hl hm).1
  · split
    · unfold refEvictOut
      split
      · exact hl
      · split
        · exact hl
        · unfold writeOut
          split
          · exact hl
          · show ((doAll L (evictRs L c.n)).length : Int) ≤ m
            unfold evictRs
            rw [doAll_gone _ _ kL, List.length_drop]
            omega
    · split
      · exact hl
      · split
        · unfold refCompOut
          split <;> exact hl
        · exact hl
def cA (c : Cl) : Value := .agg (clA c)
/-- A call on both, of whatever kind. -/
theorem does_any {TD TS TR : Nat → Prop} {b d b2 : Nat} {nm : ByteArray} {m m2 z : Int} {h : Hd} {A : List Ab} {L L2 : List En} {w : World} {n : Nat} (pr : Pair TD TS TR b d nm m h A L b2 m2 L2 z w) (ok : DvOk n h A) (hn : n ≤ 999990) (hns : nm.size ≤ 28) (bL : Bd 200 L) (bL2 : Bd 200 L2) (hm : 1 ≤ m ∧ m ≤ 4096) (hm2 : 1 ≤ m2 ∧ m2 ≤ 4096) (hzz : 0 ≤ z ∧ z ≤ 1099511627776) (c : Cl) (hk : c.key.size ≤ 4096) (hv : c.val.size ≤ 4096) (free : Int) :
    Calls Try.prog 13 #[.pointer (some ⟨b, 0, none⟩), .pointer (some ⟨b2, 0, none⟩), cA c, .int .i64 free] w (DoesEnd TD TS TR b d nm m (codeOut h A nm m L c).1.1 (codeOut h A nm m L c).1.2.1 (codeOut h A nm m L c).1.2.2 (if (codeOut h A nm m L c).1.1 = 0 then (codeOut h A nm m L c).2 else L) b2 m2 (refOut L2 m2 z free c) w) := by
  obtain ⟨kd, key, val, nn, fu, kp, tn⟩ := c
  dsimp only at hk hv
  have l1 := bL.l
  have l2 := bL2.l
  have an := ok.l
  have z1 := bytesN_bound _ 201 8227 (by have := putRs_len L m key val; omega) (bL.putRs m hk hv)
  have z2 := bytesN_bound _ 201 8227 (by have := putRs_len L2 m2 key val; omega) (bL2.putRs m2 hk hv)
  have z3 := bytesN_bound _ 201 8227 (by have := ev_len L nn; omega) (bL.evRs nn)
  have z4 := bytesN_bound _ 201 8227 (by have := ev_len L2 nn; omega) (bL2.evRs nn)
  have z5 := bytesN_bound (L.map putB) 201 8227 (by rw [List.length_map]; omega) bL.cpRs
  have z6 := bytesN_bound (L2.map putB) 201 8227 (by rw [List.length_map]; omega) bL2.cpRs
  have k1 : ∀ e ∈ L, e.1.size ≤ 65536 := fun e he => by have := bL.s e he; omega
  have k2 : ∀ e ∈ L2, e.1.size ≤ 65536 := fun e he => by have := bL2.s e he; omega
  unfold bytesN at z1 z3 z5
  unfold cA clA codeOut refOut
  dsimp only
  by_cases h0 : kd = 0
  · subst h0
    rw [if_pos rfl, if_pos rfl]
    exact does_put pr key val nn fu kp free tn _ _ _ (fun fw kv => put_any kv (ok.hd (by omega)) ok.t (by omega) key val (by omega) (by omega) hm (by omega) k1 (fun _ => by omega)) (fun fw rs hT => refPut_any rs hT bL2.nd hzz (by omega) hm2 k2 key val (by omega) (by omega) (fun _ => by omega) free)
  rw [if_neg h0, if_neg h0]
  by_cases h1 : kd = 1
  · subst h1
    rw [if_pos rfl, if_pos rfl]
    exact does_evict pr key val nn fu kp free tn _ _ _ (fun fw kv => evict_any kv (ok.hd (by omega)) ok.t (by omega) nn (by omega) k1 (by omega)) (fun fw rs hT => refEvict_any rs hT bL2.nd hzz (by omega) k2 nn (by omega) free)
  rw [if_neg h1, if_neg h1]
  by_cases h2 : kd = 2
  · subst h2
    rw [if_pos rfl, if_pos rfl]
    exact does_sync pr key val nn fu kp free tn _ _ (fun fw kv => kvSync_any kv (ok.hd (by omega)) ok.t)
  rw [if_neg h2, if_neg h2]
  by_cases h3 : kd = 3
  · subst h3
    rw [if_pos rfl, if_pos rfl]
    exact does_compact pr key val nn fu kp free tn _ _ _ (fun fw kv => compact_any kv ok hn hns (by omega) (fun e he => by have := bL.s e he; omega) (by rw [List.length_map] at z5; omega)) (fun fw rs hT => refCompact_any rs (by omega) (fun e he => by have := bL2.s e he; omega) (by omega) free)
  rw [if_neg h3, if_neg h3]
  have := does_none pr kd ⟨h0, h1, h2, h3⟩ key val nn fu kp free tn
  rwa [show (if ((0, h, A) : Int × Hd × List Ab).1 = 0 then L else L) = L from ite_self _]
/-- A store alone on a device of which the power is on. -/
structure Sol (r : Int) (n : Nat) (nm : ByteArray) (h : Hd) (A : List Ab) (L : List En) (z : Nat) : Prop where
  k : Lit_ r h
  a : 0 ≤ h.acts ∧ h.acts ≤ (n : Int)
  o : One A nm L z
  z : (z : Int) ≤ r
  r : r ≤ 1048576
theorem One.len {A : List Ab} {nm : ByteArray} {L : List En} {z : Nat} (o : One A nm L z) : A.length ≤ 1 := by
  rcases o with ⟨rfl, _, rfl⟩ | ⟨H, s, rfl, _, _, rfl⟩ <;> simp
theorem Sol.ok {r : Int} {n : Nat} {nm : ByteArray} {h : Hd} {A : List Ab} {L : List En} {z : Nat} (s : Sol r n nm h A L z) : DvOk (n + 1) h A := by
  have h1 := s.z
  have h2 := s.r
  have h3 := s.a
  exact ⟨by rw [s.k.room]; omega, by rw [s.k.left]; omega, by omega, by rw [s.o.tot]; omega, Nat.le_trans s.o.len (by omega)⟩
theorem Sol.more {r : Int} {n n2 : Nat} {nm : ByteArray} {h : Hd} {A : List Ab} {L : List En} {z : Nat} (s : Sol r n nm h A L z) (hn : n ≤ n2) : Sol r n2 nm h A L z := ⟨s.k, by have := s.a; omega, s.o, s.z, s.r⟩
theorem Sol.log {r : Int} {n : Nat} {nm : ByteArray} {h : Hd} {A : List Ab} {L : List En} {z : Nat} (s : Sol r n nm h A L z) (g : goodN nm = true) (R : List ByteArray) (hR : ∀ x ∈ R, x.size ≤ 65536) (hk : ∀ x ∈ R, ∀ L, (doC L x).isSome = true) :
    (r - (z : Int) < ((bytesN R : Nat) : Int) ∧ logR h A nm (G.recsL R) = (6, h, A)) ∨ (¬ r - (z : Int) < ((bytesN R : Nat) : Int) ∧ ∃ h2 A2, logR h A nm (G.recsL R) = (0, h2, A2) ∧ Sol r (n + 1) nm h2 A2 (doAll L R) (z + bytesN R)) := by
  have hb := bytesN_recs R hR
  have ht := s.o.tot
  by_cases hf : r - (z : Int) < ((bytesN R : Nat) : Int)
  · exact .inl ⟨hf, logR_full s.k g (by rw [ht, hb]; exact hf)⟩
  · refine .inr ⟨hf, _, _, log_lit s.k g (by rw [ht, hb]; omega), lit_next s.k, ?_, ?_, by omega, s.r⟩
    · show (0 : Int) ≤ h.acts + 1 ∧ h.acts + 1 ≤ ((n + 1 : Nat) : Int)
      have := s.a; omega
    · rw [← hb]
      exact s.o.apd R hR (doSome_all R L hk)
theorem putB_small {k v : ByteArray} (hk : k.size ≤ 4096) (hv : v.size ≤ 4096) : ¬ 65536 < (putB (k, v)).size := by rw [putB_size]; show ¬ 65536 < 35 + k.size + v.size; omega
/-- What a call of the code comes to, on a store alone: as the document tells, with the room that is left. -/
theorem code_one {r : Int} {n N : Nat} {nm : ByteArray} {h : Hd} {A : List Ab} {L : List En} {z : Nat} (s : Sol r n nm h A L z) (g : goodN nm = true) (g2 : goodN (nm ++ wNew) = true) (bL : Bd N L) (m : Int) (c : Cl) (hk : c.key.size ≤ 4096) (hv : c.val.size ≤ 4096) :
    ∃ h2 A2 z3, (codeOut h A nm m L c).1 = ((refOut L m z (r - z) c).1, h2, A2) ∧ (if (codeOut h A nm m L c).1.1 = 0 then (codeOut h A nm m L c).2 else L) = (refOut L m z (r - z) c).2.1 ∧ Sol r (n + 3) nm h2 A2 (refOut L m z (r - z) c).2.1 z3 ∧ (refOut L m z (r - z) c).2.2 = (z3 : Int) := by
  unfold codeOut refOut
  by_cases h0 : c.kind = 0
  · simp only [if_pos h0]
    unfold putOut refPutOut
    simp only [if_neg (putB_small hk hv)]
    by_cases hg : getL L c.key = (c.val, true)
    · simp only [if_pos hg]
      exact ⟨h, A, z, rfl, by simp, s.more (by omega), rfl⟩
    · simp only [if_neg hg]
      unfold writeOut
      rcases s.log g (putRs L m c.key c.val) (fun x hx => by have := bL.putRs m hk hv x hx; omega) (put_known bL m hk hv) with ⟨hf, hl⟩ | ⟨hf, h2, A2, hl, s2⟩
      · simp only [if_pos hf, hl]
        exact ⟨h, A, z, rfl, by simp, s.more (by omega), rfl⟩
      · simp only [if_neg hf, hl]
        exact ⟨h2, A2, z + bytesN (putRs L m c.key c.val), rfl, by simp, s2.more (by omega), by simp⟩
  simp only [if_neg h0]
  by_cases h1 : c.kind = 1
  · simp only [if_pos h1]
    unfold evictOut refEvictOut
    by_cases hn : c.n < 0
    · simp only [if_pos hn]
      exact ⟨h, A, z, rfl, by simp, s.more (by omega), rfl⟩
    · simp only [if_neg hn]
      have hev := s.log g (evictRs L c.n) (fun x hx => by have := bL.evRs c.n x hx; omega) (ev_known bL c.n)
      by_cases he : (evictRs L c.n).length = 0
      · simp only [if_pos he]
        have h00 : evictRs L c.n = [] := List.eq_nil_of_length_eq_zero he
        rw [h00] at hev ⊢
        rcases hev with ⟨hf, hl⟩ | ⟨hf, h2, A2, hl, s2⟩
        · have := s.z
          have : bytesN [] = 0 := rfl
          omega
        · rw [hl]
          exact ⟨h2, A2, z, rfl, by simp [doAll], s2.more (by omega), rfl⟩
      · simp only [if_neg he]
        unfold writeOut
        rcases hev with ⟨hf, hl⟩ | ⟨hf, h2, A2, hl, s2⟩
        · simp only [if_pos hf, hl]
          exact ⟨h, A, z, rfl, by simp, s.more (by omega), rfl⟩
        · simp only [if_neg hf, hl]
          exact ⟨h2, A2, z + bytesN (evictRs L c.n), rfl, by simp, s2.more (by omega), by simp⟩
  simp only [if_neg h1]
  by_cases h2 : c.kind = 2
  · simp only [if_pos h2]
    obtain ⟨h2, A2, q1, q2, q3, q4, q5⟩ := s.o.sync s.k g
    rw [q1]
    exact ⟨h2, A2, z, rfl, by simp, ⟨q2, by have := s.a; omega, q3, s.z, s.r⟩, rfl⟩
  simp only [if_neg h2]
  by_cases h3 : c.kind = 3
  · simp only [if_pos h3]
    unfold refCompOut
    rcases s.o.comp s.k g g2 bL.nd (fun e he => by have := bL.s e he; omega) with ⟨hf, hl⟩ | ⟨hf, h2, A2, hl, q2, q3, q4⟩
    · simp only [if_pos hf, hl]
      exact ⟨h, A, z, rfl, by simp, s.more (by omega), rfl⟩
    · simp only [if_neg hf, hl]
      exact ⟨h2, A2, bytesN (L.map putB), rfl, by simp, ⟨q2, by have := s.a; omega, q3, by omega, s.r⟩, rfl⟩
  simp only [if_neg h3]
  exact ⟨h, A, z, rfl, by simp, s.more (by omega), rfl⟩
end Go.Proofs.Ytbdlmdmbaajcmaa
