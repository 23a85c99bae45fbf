/- The parts of the statement KvlogAgain. -/
import Derived.Test.YtbdlmdmbaajcmaaWd
import Derived.Test.YtbdlmdmbaajcmaaVc
namespace Go.Proofs.Ytbdlmdmbaajcmaa
set_option linter.unusedVariables false
set_option linter.unusedSimpArgs false
open Go.ChangeShapes Go.WideShapes Go.ChangeAt Go.RowKit

theorem fit_same {L : List En} {m z f z2 f2 : Int} {c : Cl} (h : ¬ noFit L m f c) (h2 : ¬ noFit L m f2 c) : (refOut L m z f c).1 = (refOut L m z2 f2 c).1 ∧ (refOut L m z f c).2.1 = (refOut L m z2 f2 c).2.1 := by
  unfold noFit at h h2
  have q1 : ¬ f < (bytesN (putRs L m c.key c.val) : Int) := fun q => h (.inl q)
  have q2 : ¬ f < (bytesN (evictRs L c.n) : Int) := fun q => h (.inr (.inl q))
  have q3 : ¬ f < (bytesN (L.map putB) : Int) := fun q => h (.inr (.inr q))
  have p1 : ¬ f2 < (bytesN (putRs L m c.key c.val) : Int) := fun q => h2 (.inl q)
  have p2 : ¬ f2 < (bytesN (evictRs L c.n) : Int) := fun q => h2 (.inr (.inl q))
  have p3 : ¬ f2 < (bytesN (L.map putB) : Int) := fun q => h2 (.inr (.inr q))
  unfold refOut refPutOut refEvictOut refCompOut writeOut
  simp only [if_neg q1, if_neg q2, if_neg q3, if_neg p1, if_neg p2, if_neg p3]
  constructor <;> (repeat' (first | rfl | contradiction | split))
theorem Tl.more {A : List Ab} {nm : ByteArray} {L : List En} {q q2 : Nat} (k : Tl A nm L q) (h : q ≤ q2) : Tl A nm L q2 := by
  obtain ⟨H, t, s, e, h1, h2, h3, h4, h5⟩ := k.f
  exact ⟨H, t, s, e, h1, h2, h3, h4, Nat.le_trans h5 h⟩
theorem Tl.nd {A : List Ab} {nm : ByteArray} {L : List En} {q : Nat} (k : Tl A nm L q) : (A.map (·.1)).Nodup := by
  obtain ⟨H, t, s, rfl, _⟩ := k.f
  simp
/-- It is opened: the power goes only where the fuse is at its end. -/
theorem Tl.open2 {A : List Ab} {nm : ByteArray} {L : List En} {h : Hd} (k : Tl A nm L 7) (hd : h.down = false) (h1 : goodN nm = true) (h2 : goodN (nm ++ wNew) = true) :
    ∃ h2 A2, (openOut h A nm = (0, h2, A2, L) ∨ h.left = 1 ∧ openOut h A nm = (7, h2, A2, [])) ∧ Tl A2 nm L 7 := by
  obtain ⟨H, t, s, rfl, q1, q2, q3, q4, q5⟩ := k.f
  have hne := ready_ne nm rfl
  have r1 : readyE h nm = 0 := by unfold readyE; rw [if_neg (by rw [hd]; simp), if_pos h1]
  have r2 : readyE h (nm ++ wNew) = 0 := by unfold readyE; rw [if_neg (by rw [hd]; simp), if_pos h2]
  have hw : G.wholeL t = none := G.wholeL_short t (by omega)
  unfold openOut
  rw [show findA h [(nm, G.recsL H ++ t, s)] (nm ++ wNew) = 5 from by unfold findA; rw [if_neg (by rw [r2]; simp)]; simp [lookA, hne], step_pre (by decide)]
  unfold openA
  rw [if_neg (by simp)]
  dsimp only
  unfold mendOut
  rw [show findA h [(nm, G.recsL H ++ t, s)] nm = 0 from by unfold findA; rw [if_neg (by rw [r1]; simp)]; simp [lookA], if_pos rfl]
  rw [show lookA [(nm, G.recsL H ++ t, s)] nm = some (nm, G.recsL H ++ t, s) from by simp [lookA]]
  dsimp only
  rw [G.split_recs H t q3 hw]
  dsimp only
  by_cases ht : (G.recsL H).length < (G.recsL H ++ t).length
  · rw [if_pos ht]
    have hcut : cutA [(nm, G.recsL H ++ t, s)] nm (G.recsL H).length = [(nm, G.recsL H ++ [], min s (G.recsL H).length)] := by
      rw [List.length_append] at ht
      simp [cutA, lookA, updA]
    have hT1 : Tl (cutA [(nm, G.recsL H ++ t, s)] nm (G.recsL H).length) nm L 7 := by
      rw [hcut]
      exact ⟨H, [], _, rfl, by omega, by rw [List.append_nil]; omega, q3, q4, by simp⟩
    have hT0 : Tl [(nm, G.recsL H ++ t, s)] nm L 7 := ⟨H, t, s, rfl, q1, q2, q3, q4, q5⟩
    generalize cutA [(nm, G.recsL H ++ t, s)] nm (G.recsL H).length = A1 at *
    by_cases hl : h.left = 1
    · rw [step_off rfl hl]
      dsimp only
      refine ⟨_, _, .inr ⟨hl, by unfold openB; rw [if_pos (by simp)]⟩, ?_⟩
      split
      · exact hT1.lose _ _
      · exact hT0.lose _ _
    · rw [step_ok rfl hl]
      dsimp only
      refine ⟨_, _, .inl (by unfold openB; rw [if_neg (by simp), if_pos rfl]; dsimp only; rw [q4]), hT1⟩
  · rw [if_neg ht]
    exact ⟨h, _, .inl (by unfold openB; rw [if_neg (by simp)]; dsimp only; rw [q4]), H, t, s, rfl, q1, q2, q3, q4, q5⟩
theorem open_ok {n : Nat} {h : Hd} {A : List Ab} (ok : DvOk n h A) (nd : (A.map (·.1)).Nodup) (nm : ByteArray) : DvOk (n + 2) (openOut h A nm).2.1 (openOut h A nm).2.2.1 := by
  unfold openOut
  have h1 := ok.step (pre := findA h A (nm ++ wNew)) (stays := 1) (A1 := drpA A (nm ++ wNew)) (Nat.le_trans tot_drp ok.t) (Nat.le_trans (drpA_len _ _) (by have := ok.l; omega))
  have n1 : (((stepA h A (drpA A (nm ++ wNew)) (findA h A (nm ++ wNew)) 1).2.2).map (·.1)).Nodup := by
    unfold stepA
    have hl : ∀ (X : List Ab) (a : Int) (b : Bool), (X.map (loseA a b)).map (·.1) = X.map (·.1) := fun X a b => by rw [List.map_map]; rfl
    split
    · exact nd
    · split
      · exact nd_drp nd
      · rw [hl]
        split
        · exact nd_drp nd
        · exact nd
  generalize stepA h A (drpA A (nm ++ wNew)) (findA h A (nm ++ wNew)) 1 = r at *
  obtain ⟨e1, h2, A2⟩ := r
  unfold openA
  split
  · exact h1.more (by omega)
  · have h3 := mend_ok h1 n1 nm
    dsimp only at h3 ⊢
    generalize mendOut h2 A2 nm = r3 at *
    unfold openB
    split
    · exact h3
    · split <;> exact h3
theorem DvOk.arm {n : Nat} {h : Hd} {A : List Ab} (ok : DvOk n h A) {f kp : Int} {torn : Bool} (hf : f ≤ 9223372036854775807) : DvOk n { h with left := max f 0, keep := kp, torn := torn } A := ⟨ok.room, by show 0 ≤ max f 0 ∧ max f 0 ≤ _; omega, ok.acts, ok.t, ok.l⟩
theorem DvOk.on {n : Nat} {h : Hd} {A : List Ab} (ok : DvOk n h A) {x : Bool} : DvOk n { h with down := x } A := ⟨ok.room, ok.left, ok.acts, ok.t, ok.l⟩
theorem DvOk.off {n : Nat} {h : Hd} {A : List Ab} (ok : DvOk n h A) {kp : Int} {torn : Bool} : DvOk n (offH h) (A.map (loseA kp torn)) := ⟨ok.room, by show (0 : Int) ≤ 0 ∧ (0 : Int) ≤ _; omega, ok.acts, Nat.le_trans tot_lose ok.t, by rw [List.length_map]; exact ok.l⟩
section
variable {B b d b2 : Nat} {nm : ByteArray} {m m2 z r : Int} {h : Hd} {A : List Ab} {L L2 : List En} {w : World} {n zz N : Nat}
/-- What the device, or the code's store, turned leaves the document's. -/
theorem Tri.to (k : Tri B b d nm m h A L b2 m2 L2 z w) (hB : B ≤ w.heap.size) : ∃ TD TS, Kv TD TS b d nm m h A L w ∧ ∀ h' A' L' w', KvTo TD TS b d nm m h' A' L' w w' → Tri B b d nm m h' A' L' b2 m2 L2 z w' ∧ Below B w w' := by
  obtain ⟨TD, TS, TR, k1, k2, k3, k4⟩ := k.s
  refine ⟨TD, TS, k1.kv, fun h' A' L' w' ⟨TD', TS', q1, q2, q3, q4⟩ => ⟨⟨TD', TS', TR, ⟨q1, k1.rs.kept q4 (fun q hq ho => k1.dj q hq ho), fun q hq ho => ?_, fun q hq => Nat.lt_of_lt_of_le (k1.lr q hq) q4.size⟩, fun q hq => Gr.ge k2 hB q (q2 q hq), fun q hq => Gr.ge k3 hB q (q3 q hq), k4⟩, q4.below (fun q hq => by rcases hq with hq | hq; exact k2 q hq; exact k3 q hq) hB⟩⟩
  have hl := k1.lr q hq
  rcases ho with ho | ho
  · rcases q2 q ho with ho | ho
    · exact k1.dj q hq (.inl ho)
    · omega
  · rcases q3 q ho with ho | ho
    · exact k1.dj q hq (.inr ho)
    · omega
theorem tri_sync (k : Tri B b d nm m h A L b2 m2 L2 z w) (hB : B ≤ w.heap.size) (so : Sol r n nm h A L zz) (hn : n ≤ 1000) (g : goodN nm = true) :
    Calls Try.prog 20 #[.pointer (some ⟨b, 0, none⟩)] w fun e w' => e = .returned (.int .i64 0) ∧ (∃ h2 A2, Tri B b d nm m h2 A2 L b2 m2 L2 z w' ∧ Sol r (n + 3) nm h2 A2 L zz ∧ Sy A2 nm L) ∧ Below B w w' := by
  obtain ⟨TD, TS, kv, hto⟩ := k.to hB
  obtain ⟨h2, A2, e0, q1, q2, q3, q4, q5⟩ := so.o.sync2 so.k g
  refine (kvSync_any kv (so.ok.hd (by omega)) so.ok.t).mono ?_
  rintro e w' ⟨he, hk⟩
  rw [e0] at he hk
  have := hto _ _ _ _ hk
  rw [ite_self] at this
  exact ⟨he, ⟨h2, A2, this.1, ⟨q1, by have := so.a; omega, q2, so.z, so.r⟩, q3⟩, this.2⟩
theorem tri_put (k : Tri B b d nm m h A L b2 m2 L2 z w) (hB : B ≤ w.heap.size) (so : Sol r n nm h A L zz) (hn : n ≤ 1000) (g : goodN nm = true) (sy : Sy A nm L) (bL : Bd N L) (hN : N ≤ 200) (hm : 1 ≤ m ∧ m ≤ 4096) {kk vv : ByteArray} (hk : kk.size ≤ 4096) (hv : vv.size ≤ 4096) (hroom : (zz : Int) + (bytesN (putRs L m kk vv) : Int) ≤ r) (torn : Bool) :
    Calls Try.prog 18 #[.pointer (some ⟨b, 0, none⟩), .string kk, .string vv] w fun e w' => ∃ x, e = .returned (.int .i64 x) ∧ (∃ h2 A2 L', Tri B b d nm m h2 A2 L' b2 m2 L2 z w' ∧ Tl (A2.map (loseA 5 torn)) nm L 5 ∧ DvOk (n + 2) h2 A2 ∧ h2.down = false) ∧ Below B w w' := by
  obtain ⟨TD, TS, kv, hto⟩ := k.to hB
  obtain ⟨q1, q2, q3⟩ := put_five so g sy bL m hk hv hroom torn
  have hz : G.total (putRs L m kk vv) + 8 * (putRs L m kk vv).length ≤ 16777216 := by
    have h1 := total_bound (putRs L m kk vv) 8227 (bL.putRs m hk hv)
    have h2 := putRs_len L m kk vv
    have h3 : (putRs L m kk vv).length ≤ 201 := by have := bL.l; omega
    have h4 : (putRs L m kk vv).length * 8227 ≤ 201 * 8227 := Nat.mul_le_mul_right _ h3
    omega
  refine (put_any kv (so.ok.hd (by omega)) so.ok.t (by have := so.ok.l; omega) kk vv (by omega) (by omega) hm (by have := bL.l; omega) (fun e he => by have := bL.s e he; omega) (fun _ => hz)).mono ?_
  rintro e w' ⟨he, hk2⟩
  have := hto _ _ _ _ hk2
  exact ⟨_, he, ⟨_, _, _, this.1, q1, q2, q3.down⟩, this.2⟩
theorem tri_arm (k : Tri B b d nm m h A L b2 m2 L2 z w) (hB : B ≤ w.heap.size) (f kp : Int) (torn : Bool) : Calls Try.prog 27 #[.pointer (some ⟨d, 0, none⟩), .int .i64 f, .int .i64 kp, .bool torn] w fun e w' => e = .returned (.tuple #[]) ∧ Tri B b d nm m { h with left := max f 0, keep := kp, torn := torn } A L b2 m2 L2 z w' ∧ Below B w w' := by
  obtain ⟨TD, TS, kv, hto⟩ := k.to hB
  refine (cArm kv.dv f kp torn).mono ?_
  rintro e w' ⟨h1, h2, h3⟩
  have := hto _ _ _ _ (kv.dev (h2.mono (fun q hq => .inl hq)) h3)
  exact ⟨h1, this⟩
/-- A device whose file has a list, and a short tail. -/
structure Dx (B d n c : Nat) (m : Int) (L : List En) (z : Int) (nm : ByteArray) (LA : List En) (P : Hd → Prop) (w : World) : Prop where
  f : ∃ h A, Ag B d h A c m L z w ∧ Tl A nm LA 7 ∧ DvOk n h A ∧ P h
structure Tx (B b d n c : Nat) (m : Int) (L : List En) (z : Int) (nm : ByteArray) (m1 : Int) (LA : List En) (P : Hd → Prop) (w : World) : Prop where
  f : ∃ h A, Tri B b d nm m1 h A LA c m L z w ∧ Tl A nm LA 7 ∧ DvOk n h A ∧ P h
variable {c : Nat} {LA : List En} {P : Hd → Prop}
theorem Tx.duo {m1 : Int} (k : Tx B b d n c m L z nm m1 LA P w) : ∃ h A, Duo B b d nm m1 h A LA w := by
  obtain ⟨h, A, k1, _⟩ := k.f
  exact ⟨h, A, k1.duo⟩
theorem Tx.below {m1 : Int} (k : Tx B b d n c m L z nm m1 LA P w) {w' : World} (hB : Below w.heap.size w w') : Tx B b d n c m L z nm m1 LA P w' := by
  obtain ⟨h, A, k1, k2⟩ := k.f
  exact ⟨h, A, k1.below hB, k2⟩
theorem Tx.dx {m1 : Int} (k : Tx B b d n c m L z nm m1 LA P w) : Dx B d n c m L z nm LA P w := by
  obtain ⟨h, A, k1, k2, k3, k4⟩ := k.f
  exact ⟨h, A, k1.ag, k2, k3, k4⟩
theorem Tx.more {m1 : Int} (k : Tx B b d n c m L z nm m1 LA P w) {n2 : Nat} (hn : n ≤ n2) : Tx B b d n2 c m L z nm m1 LA P w := by
  obtain ⟨h, A, k1, k2, k3, k4⟩ := k.f
  exact ⟨h, A, k1, k2, k3.more hn, k4⟩
theorem Dx.more (k : Dx B d n c m L z nm LA P w) {n2 : Nat} (hn : n ≤ n2) : Dx B d n2 c m L z nm LA P w := by
  obtain ⟨h, A, k1, k2, k3, k4⟩ := k.f
  exact ⟨h, A, k1, k2, k3.more hn, k4⟩
theorem dx_on (k : Dx B d n c m L z nm LA (fun h => h.left = 0) w) (hB : B ≤ w.heap.size) : Calls Try.prog 30 #[.pointer (some ⟨d, 0, none⟩)] w fun e w' => e = .returned (.tuple #[]) ∧ Dx B d n c m L z nm LA (fun h => h.down = false ∧ h.left = 0) w' ∧ Below B w w' := by
  obtain ⟨h, A, k1, k2, k3, k4⟩ := k.f
  refine (ag_on k1 hB).mono ?_
  rintro e w' ⟨h1, h2, h3⟩
  exact ⟨h1, ⟨_, A, h2, k2, k3.on, rfl, k4⟩, h3⟩
theorem dx_arm (k : Dx B d n c m L z nm LA (fun h => h.down = false ∧ h.left = 0) w) (hB : B ≤ w.heap.size) (f kp : Int) (torn : Bool) (hf : f ≤ 9223372036854775807) : Calls Try.prog 27 #[.pointer (some ⟨d, 0, none⟩), .int .i64 f, .int .i64 kp, .bool torn] w fun e w' => e = .returned (.tuple #[]) ∧ Dx B d n c m L z nm LA (fun h => h.down = false) w' ∧ Below B w w' := by
  obtain ⟨h, A, k1, k2, k3, k4, k5⟩ := k.f
  refine (ag_arm k1 hB f kp torn).mono ?_
  rintro e w' ⟨h1, h2, h3⟩
  exact ⟨h1, ⟨_, A, h2, k2, k3.arm hf, k4⟩, h3⟩
theorem dx_disarm (k : Dx B d n c m L z nm LA (fun h => True) w) (hB : B ≤ w.heap.size) : Calls Try.prog 27 #[.pointer (some ⟨d, 0, none⟩), .int .i64 0, .int .i64 0, .bool false] w fun e w' => e = .returned (.tuple #[]) ∧ Dx B d n c m L z nm LA (fun h => h.left = 0) w' ∧ Below B w w' := by
  obtain ⟨h, A, k1, k2, k3, k4⟩ := k.f
  refine (ag_arm k1 hB 0 0 false).mono ?_
  rintro e w' ⟨h1, h2, h3⟩
  exact ⟨h1, ⟨_, A, h2, k2, k3.arm (by omega), rfl⟩, h3⟩
theorem tx_disarm {m1 : Int} (k : Tx B b d n c m L z nm m1 LA (fun h => True) w) (hB : B ≤ w.heap.size) : Calls Try.prog 27 #[.pointer (some ⟨d, 0, none⟩), .int .i64 0, .int .i64 0, .bool false] w fun e w' => e = .returned (.tuple #[]) ∧ Tx B b d n c m L z nm m1 LA (fun h => h.left = 0) w' ∧ Below B w w' := by
  obtain ⟨h, A, k1, k2, k3, k4⟩ := k.f
  refine (tri_arm k1 hB 0 0 false).mono ?_
  rintro e w' ⟨h1, h2, h3⟩
  exact ⟨h1, ⟨_, A, h2, k2, k3.arm (by omega), rfl⟩, h3⟩
theorem dx_off (k : Dx B d n c m L z nm LA (fun h => h.left = 0) w) (hB : B ≤ w.heap.size) (keep : Int) (torn : Bool) : Calls Try.prog 29 #[.pointer (some ⟨d, 0, none⟩), .int .i64 keep, .bool torn] w fun e w' => e = .returned (.tuple #[]) ∧ Dx B d n c m L z nm LA (fun h => h.left = 0) w' ∧ Below B w w' := by
  obtain ⟨h, A, k1, k2, k3, k4⟩ := k.f
  refine (ag_off k1 hB k3.t keep torn).mono ?_
  rintro e w' ⟨h1, h2, h3⟩
  by_cases hd : h.down = true
  · rw [if_pos hd, if_pos hd] at h2
    exact ⟨h1, ⟨h, A, h2, k2, k3, k4⟩, h3⟩
  · rw [if_neg hd, if_neg hd] at h2
    exact ⟨h1, ⟨_, _, h2, k2.lose keep torn, k3.off, rfl⟩, h3⟩
/-- The first loss of power, behind a Sync and a Put. -/
theorem tri_off5 (k : Tri B b d nm m h A L b2 m2 L2 z w) (hB : B ≤ w.heap.size) (torn : Bool) (tl : Tl (A.map (loseA 5 torn)) nm LA 5) (ok : DvOk n h A) (hd : h.down = false) : Calls Try.prog 29 #[.pointer (some ⟨d, 0, none⟩), .int .i64 5, .bool torn] w fun e w' => e = .returned (.tuple #[]) ∧ Dx B d n b2 m2 L2 z nm LA (fun h => h.left = 0) w' ∧ Below B w w' := by
  refine (ag_off k.ag hB ok.t 5 torn).mono ?_
  rintro e w' ⟨h1, h2, h3⟩
  have hn : ¬ h.down = true := by rw [hd]; simp
  rw [if_neg hn, if_neg hn] at h2
  exact ⟨h1, ⟨_, _, h2, tl.more (by omega), ok.off, rfl⟩, h3⟩
theorem dx_open (k : Dx B d n c m L z nm LA (fun h => h.down = false) w) (hB : B ≤ w.heap.size) (hn : n ≤ 999998) (g : goodN nm = true) (g2 : goodN (nm ++ wNew) = true) (m1 : Int) (hm : 1 ≤ m1 ∧ m1 ≤ 4096) :
    Calls Try.prog 12 #[.pointer (some ⟨d, 0, none⟩), .string nm, .int .i64 m1] w fun e w' =>
      ((∃ b3, e = .returned (.tuple #[.pointer (some ⟨b3, 0, none⟩), .int .i64 0]) ∧ Tx B b3 d (n + 2) c m L z nm m1 LA (fun h => True) w') ∨
      (e = .returned (.tuple #[.pointer none, .int .i64 7]) ∧ Dx B d (n + 2) c m L z nm LA (fun h => True) w')) ∧ Below B w w' := by
  obtain ⟨h, A, k1, k2, k3, k4⟩ := k.f
  obtain ⟨h2, A2, ho, htl⟩ := k2.open2 k4 g g2
  have hok := open_ok k3 k2.nd nm
  refine (ag_open k1 hB k3 hn g g2 m1 hm).mono ?_
  rintro e w' hr
  rcases ho with ho | ⟨_, ho⟩
  · rw [ho] at hr hok
    rcases hr with ⟨_, b3, he, ht, hb⟩ | ⟨h0, _⟩
    · exact ⟨.inl ⟨b3, he, h2, A2, ht, htl, hok, trivial⟩, hb⟩
    · exact absurd rfl h0
  · rw [ho] at hr hok
    rcases hr with ⟨h0, _⟩ | ⟨_, he, ht, hb⟩
    · exact absurd (show (7 : Int) = 0 from h0) (by decide)
    · exact ⟨.inr ⟨he, h2, A2, ht, htl, hok, trivial⟩, hb⟩
theorem dx_open0 (k : Dx B d n c m L z nm LA (fun h => h.down = false ∧ h.left = 0) w) (hB : B ≤ w.heap.size) (hn : n ≤ 999998) (g : goodN nm = true) (g2 : goodN (nm ++ wNew) = true) (m1 : Int) (hm : 1 ≤ m1 ∧ m1 ≤ 4096) :
    Calls Try.prog 12 #[.pointer (some ⟨d, 0, none⟩), .string nm, .int .i64 m1] w fun e w' =>
      ∃ b3, e = .returned (.tuple #[.pointer (some ⟨b3, 0, none⟩), .int .i64 0]) ∧ Tx B b3 d (n + 2) c m L z nm m1 LA (fun h => True) w' ∧ Below B w w' := by
  obtain ⟨h, A, k1, k2, k3, k4, k5⟩ := k.f
  obtain ⟨h2, A2, ho, htl⟩ := k2.open2 k4 g g2
  have hok := open_ok k3 k2.nd nm
  refine (ag_open k1 hB k3 hn g g2 m1 hm).mono ?_
  rintro e w' hr
  rcases ho with ho | ⟨hl, _⟩
  · rw [ho] at hr hok
    rcases hr with ⟨_, b3, he, ht, hb⟩ | ⟨h0, _⟩
    · exact ⟨b3, he, ⟨h2, A2, ht, htl, hok, trivial⟩, hb⟩
    · exact absurd rfl h0
  · rw [k5] at hl
    exact absurd hl (by decide)
end
/-- A list of numbers that came in. -/
structure IntsIn (W : World) (v : Value) (l : List Int) : Prop where
  f : ∃ p c, v = .slice p l.length c ∧ ∀ (i : Nat) x, l[i]? = some x → ∃ g off, p = some ⟨g, off, none⟩ ∧ g < W.heap.size ∧ W.cell? ⟨g, off + i, none⟩ = some (.int .i64 x)
  z : ∀ x ∈ l, -9223372036854775808 ≤ x ∧ x ≤ 9223372036854775807
  n : l.length ≤ 9223372036854775807
theorem opens_nums (W : World) : Opens Try.prog W 64 (rowsR W 1 (intR .i64)) := opens_list Try.underlying64 (by kernel_rfl) (by decide) (opens_int Try.underlying3)
theorem nums_open {W : World} {v : Value} {l : List Int} (h : Rows W 1 (intR .i64) v l) : IntsIn W v l := by
  rcases h with ⟨⟨p, cap, rfl⟩, rfl⟩ | ⟨b, off, cap, rfl, h0, hl, hm, hb, hcell⟩
  · exact ⟨⟨p, cap, rfl, fun i x hx => by simp at hx⟩, by simp, by simp⟩
  · refine ⟨⟨_, cap, rfl, fun i x hx => ?_⟩, fun x hx => ?_, by unfold maxLen at hm; omega⟩
    · obtain ⟨ecs, ⟨h1, h2⟩, h3, h4⟩ := hcell i x hx
      have := h4 0 (by decide)
      rw [h1] at this
      exact ⟨b, off, rfl, hb, by simpa using this⟩
    · obtain ⟨i, hi⟩ := List.mem_iff_getElem?.1 hx
      obtain ⟨ecs, ⟨h1, h2⟩, _⟩ := hcell i x hi
      exact i64_in h2
end Go.Proofs.Ytbdlmdmbaajcmaa
