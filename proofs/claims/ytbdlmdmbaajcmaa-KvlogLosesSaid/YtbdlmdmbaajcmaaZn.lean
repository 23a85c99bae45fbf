/- The eldest go; all is made for good. -/
import Derived.Test.YtbdlmdmbaajcmaaZm
namespace Go.Proofs.Ytbdlmdmbaajcmaa
set_option linter.unusedVariables false
set_option linter.unusedSimpArgs false
open Go.ChangeShapes Go.WideShapes Go.ChangeAt Go.RowKit

def evictRs (L : List En) (n : Int) : List ByteArray := (L.take n.toNat).map (fun e => goneB e.1)
/-- What an Evict comes to. -/
def evictOut (h : Hd) (A : List Ab) (nm : ByteArray) (L : List En) (n : Int) : (Int × Hd × List Ab) × List En :=
  if n < 0 then ((1, h, A), L) else (logR h A nm (G.recsL (evictRs L n)), doAll L (evictRs L n))
set_option maxRecDepth 100000 in
set_option maxHeartbeats 1000000 in
/-- The eldest go. -/
theorem evict_any {TD TS : Nat → Prop} {b d : Nat} {nm : ByteArray} {m : Int} {h : Hd} {A : List Ab} {L : List En} {w : World} (kv : Kv TD TS b d nm m h A L w) (ho : HdOk h) (ht : totA A ≤ 1048576) (hn : A.length ≤ 1048576) (n : Int) (hl : L.length ≤ 8192) (hkey : ∀ e ∈ L, e.1.size ≤ 65536) (hz : G.total (evictRs L n) + 8 * (evictRs L n).length ≤ 16777216) :
    Calls Try.prog 19 #[.pointer (some ⟨b, 0, none⟩), .int .i64 n] w (LogEnd TD TS b d nm m (evictOut h A nm L n).1 L (evictOut h A nm L n).2 w) := by
  unfold evictOut
  by_cases h0 : n < 0
  · rw [if_pos h0]
    have HE := Lib.hid (show LogEnd TD TS b d nm m (1, h, A) L L w (.returned (.int .i64 1)) w from ⟨rfl, by rw [if_neg (show ¬ ((1 : Int) = 0) by decide)]; exact kv.to (Below.refl _ _)⟩)
    clear kv hz hkey
    go_enter Try.func19, Try.ntmps19
    go_wp2_with fail
    go_ret
    exact HE.out
  rw [if_neg h0]
  have HEl := Lib.hid (eldest_any kv.st (by omega) (fun e he => by have := hkey e he; omega) n)
  have HLg := Lib.hid (fun (w1 : World) (v : Value) (hv : w1.ownsRow w.heap.size 9 1 v (evictRs L n).length ((evictRs L n).map Value.string)) (hB : Below w.heap.size w w1) => log_any (kv.below hB) ho ht hn (evictRs L n) v w.heap.size hv (fun k hk => by
    rcases hk with hk | hk
    · exact kv.ld k hk
    · exact kv.ls k hk) hz (fun r hr => by
    obtain ⟨e, he, rfl⟩ := List.mem_map.1 hr
    rw [goneB_size]
    have := hkey e (List.mem_of_mem_take he)
    omega) (by unfold evictRs; rw [List.length_map, List.length_take]; omega))
  have HD := Lib.hid (show EldEnd (L.take n.toNat) w = StrsEnd (evictRs L n) w from rfl)
  clear kv hz hkey
  generalize logR h A nm (G.recsL (evictRs L n)) = r9 at *
  generalize doAll L (evictRs L n) = L9 at *
  rw [HD.out] at HEl
  clear HD
  generalize evictRs L n = R at *
  go_enter Try.func19, Try.ntmps19
  go_wp2_with fail
  refine HEl.out.mono ?_
  rintro e w1 ⟨v, rfl, hown, hB⟩
  have HB := Lib.hid hB
  have HL := Lib.hid (HLg.out w1 v hown hB)
  clear hown hB
  go_wp2_with fail
  refine HL.out.mono ?_
  rintro e w2 hlog
  have HLE := Lib.hid (hlog.pre HB.out)
  obtain ⟨he, _⟩ := hlog
  subst he
  go_wp2_with fail
  go_ret
  exact HLE.out
/-- A call to the device, from any world that is above. -/
theorem cr_at {TD : Nat → Prop} {d : Nat} {w10 : World} {f : Nat} {args : Array Value} {r : Int × Hd × List Ab} (ld : ∀ k, TD k → k < w10.heap.size) (hc : ∀ fw, Below w10.heap.size w10 fw → Calls Try.prog f args fw (CR TD d fw r)) :
    ∀ fw, Below w10.heap.size w10 fw → Calls Try.prog f args fw fun e w'' => e = .returned (.int .i64 r.1) ∧ (DV (Gr TD w10 w'') d r.2.1 r.2.2 w'' ∧ Kept TD w10 w'') ∧ Below 0 fw w'' := fun fw pb => by
  refine (hc fw pb).mono ?_
  rintro e w'' ⟨h1, h2, h3⟩
  exact ⟨h1, ⟨h2.mono (fun k hk => hk.imp id (fun x => ⟨Nat.le_trans pb.size x.1, x.2⟩)), (Kept.of_below pb).trans' h3⟩, h3.below (fun _ _ => Nat.zero_le _) (Nat.zero_le _)⟩
def syncR (h : Hd) (A : List Ab) (nm : ByteArray) : Int × Hd × List Ab := stepA h A (synA A nm) (findA h A nm) 2
/-- What a Sync comes to. -/
def sync0 (r : Int × Hd × List Ab) : Int × Hd × List Ab := (if r.1 = 5 then 0 else r.1, r.2)
def syncOut (h : Hd) (A : List Ab) (nm : ByteArray) : Int × Hd × List Ab := sync0 (syncR h A nm)
theorem LogEnd.err {TD TS : Nat → Prop} {b d : Nat} {nm : ByteArray} {m : Int} {r : Int × Hd × List Ab} {L : List En} {w w' : World} (k : KvTo TD TS b d nm m r.2.1 r.2.2 L w w') : LogEnd TD TS b d nm m r L L w (.returned (.int .i64 r.1)) w' := ⟨rfl, by rw [ite_self]; exact k⟩
set_option maxRecDepth 100000 in
set_option maxHeartbeats 2000000 in
/-- All is made for good. -/
theorem kvSync_any {TD TS : Nat → Prop} {b d : Nat} {nm : ByteArray} {m : Int} {h : Hd} {A : List Ab} {L : List En} {w : World} (kv : Kv TD TS b d nm m h A L w) (ho : HdOk h) (ht : totA A ≤ 1048576) :
    Calls Try.prog 20 #[.pointer (some ⟨b, 0, none⟩)] w (LogEnd TD TS b d nm m (syncOut h A nm) L L w) := by
  unfold syncOut
  have HSy := Lib.hid (cr_at kv.ld (fun fw hB => cSync (kv.dv.below hB) (fun k hk => Nat.lt_of_lt_of_le (kv.ld k hk) hB.size) ho ht nm))
  have HKv := Lib.hid kv
  obtain ⟨lv, hbox, _⟩ := kv.st.f
  have hlt := lt_of_block hbox
  clear kv
  obtain ⟨r9, hr9⟩ : ∃ r9, r9 = syncR h A nm := ⟨_, rfl⟩
  rw [← hr9]
  rw [show stepA h A (synA A nm) (findA h A nm) 2 = r9 from hr9.symm] at HSy
  clear hr9
  obtain ⟨e9, h9, A9⟩ := r9
  go_enter Try.func20, Try.ntmps20
  go_upto_region 3 with fail
  generalize w = w10 at *
  have hd4 : Below w10.heap.size w10 w10.drew := (Below.refl _ _).drew
  have hRL : ∃ Rs : List (Value → World → Prop), Rs = [K3.PureV (.pointer (some ⟨b, 0, none⟩)),
      K3.PureV (.pointer (some ⟨b, 0, none⟩)),
      K3.PureV (.pointer (some ⟨b, 0, none⟩)),
      AtW w10 (.pointer (some ⟨d, 0, none⟩)),
      K3.PureV (.pointer (some ⟨b, 0, none⟩)),
      K3.PureV (.pointer (some ⟨b, 0, none⟩)),
      K3.PureV (.pointer (some ⟨b, 1, none⟩)),
      K3.PureV (.string nm),
      AppW TD d (e9, h9, A9) w10,
      AppW TD d (e9, h9, A9) w10] := ⟨_, rfl⟩
  obtain ⟨Rs, hRs⟩ := hRL
  refine K3.wp_region_rel2 0 (Nat.zero_le _) (K3.RL Rs) [2, 2, 2, 1, 2, 2, 2, 2, 1, 1] [1, 1, 1, 1, 1, 1, 1, 1, 2, 1] [[], [], [], [], [], [], [], [], [3], []] (by kernel_rfl) (by kernel_rfl) (K3.RL.st1 (by rw [hRs]; exact K3.st1_cons (K3.PureV.st1 _) (K3.st1_cons (K3.PureV.st1 _) (K3.st1_cons (K3.PureV.st1 _) (K3.st1_cons (AtW.st1 _ _) (K3.st1_cons (K3.PureV.st1 _) (K3.st1_cons (K3.PureV.st1 _) (K3.st1_cons (K3.PureV.st1 _) (K3.st1_cons (K3.PureV.st1 _) (K3.st1_cons (AppW.st1 _ _ _ _) (K3.st1_cons (AppW.st1 _ _ _ _) (K3.st1_nil)))))))))))) (K3.RL.st2 (by rw [hRs]; exact K3.st2_cons (K3.PureV.st2 _ _ _) (K3.st2_cons (K3.PureV.st2 _ _ _) (K3.st2_cons (K3.PureV.st2 _ _ _) (K3.st2_skip (K3.st2_cons (K3.PureV.st2 _ _ _) (K3.st2_cons (K3.PureV.st2 _ _ _) (K3.st2_cons (K3.PureV.st2 _ _ _) (K3.st2_cons (K3.PureV.st2 _ _ _) (K3.st2_skip (K3.st2_skip (K3.st2_nil)))))))))))) ?_ ?_ ?_
  · intro i o d hi hd
    have hmem := List.mem_of_getElem? hi
    simp only [List.mem_cons, List.not_mem_nil, or_false] at hmem
    rcases hmem with rfl | rfl | rfl | rfl | rfl | rfl | rfl | rfl | rfl | rfl <;> simp at hd <;> (subst hd; simp)
  · refine K3.rel_start (Φ := K3.Hop _ _ _ _ _ _ _) ?_
    refine K3.rel_cons (Φ := K3.Hop _ _ _ _ _ _ _) (k := 0) ?_ ?_
    · intro fa fw hfB hfN hfE hfk hft
      have k0 : fa.eval (.tmp 0) = .pointer (some ⟨b, 0, none⟩) := hft 0 (K3.mem_looks (by kernel_rfl)) (K3.noneed (by kernel_rfl))
      rw [hRs]
      refine K3.hop_plain rfl ?_
      refine K3.out_move rfl ?_
      exact ⟨k0, Below.refl _ _⟩
    refine K3.rel_cons (Φ := K3.Hop _ _ _ _ _ _ _) (k := 1) ?_ ?_
    · intro fa fw hfB hfN hfE hfk hft
      have k6 : fa.eval (.tmp 6) = (.pointer (some ⟨b, 0, none⟩)) := by have := hfk 0 (K3.mem_needs (by kernel_rfl)) _ rfl; rw [hRs] at this; exact this
      rw [hRs]
      refine K3.hop_plain rfl ?_
      have kc : ∀ v, fa.eval (.const v) = v := fun _ => rfl
      generalize fa.eval = ρ at *
      exact K3.out_run (v := .pointer (some ⟨b, 0, none⟩)) (w' := fw) (by simp [execOp, kc, k6, go_sem]) ⟨rfl, Below.refl _ _⟩
    refine K3.rel_cons (Φ := K3.Hop _ _ _ _ _ _ _) (k := 2) ?_ ?_
    · intro fa fw hfB hfN hfE hfk hft
      have k7 : fa.eval (.tmp 7) = (.pointer (some ⟨b, 0, none⟩)) := by have := hfk 1 (K3.mem_needs (by kernel_rfl)) _ rfl; rw [hRs] at this; exact this
      rw [hRs]
      refine K3.hop_plain rfl ?_
      have kc : ∀ v, fa.eval (.const v) = v := fun _ => rfl
      generalize fa.eval = ρ at *
      exact K3.out_run (v := .pointer (some ⟨b, 0, none⟩)) (w' := fw) (by simp [execOp, kc, k7, go_sem]) ⟨rfl, Below.refl _ _⟩
    refine K3.rel_cons (Φ := K3.Hop _ _ _ _ _ _ _) (k := 3) ?_ ?_
    · intro fa fw hfB hfN hfE hfk hft
      have hE : Below w10.drew.heap.size w10.drew fw := hfE (by kernel_rfl)
      have k8 : fa.eval (.tmp 8) = (.pointer (some ⟨b, 0, none⟩)) := by have := hfk 2 (K3.mem_needs (by kernel_rfl)) _ rfl; rw [hRs] at this; exact this
      rw [hRs]
      refine K3.hop_plain rfl ?_
      have hbx := (hE.block b (Nat.lt_of_lt_of_le hlt hd4.size)).trans (show w10.drew.heap[b]? = _ from hbox)
      exact out_load3 rfl k8 (by simp [stA, go_sem, block_cell hbx]) ⟨⟨rfl, hd4.trans (hE.mono hd4.size)⟩, Below.refl _ _⟩
    refine K3.rel_cons (Φ := K3.Hop _ _ _ _ _ _ _) (k := 4) ?_ ?_
    · intro fa fw hfB hfN hfE hfk hft
      have k0 : fa.eval (.tmp 0) = .pointer (some ⟨b, 0, none⟩) := hft 0 (K3.mem_looks (by kernel_rfl)) (K3.noneed (by kernel_rfl))
      rw [hRs]
      refine K3.hop_plain rfl ?_
      refine K3.out_move rfl ?_
      exact ⟨k0, Below.refl _ _⟩
    refine K3.rel_cons (Φ := K3.Hop _ _ _ _ _ _ _) (k := 5) ?_ ?_
    · intro fa fw hfB hfN hfE hfk hft
      have k10 : fa.eval (.tmp 10) = (.pointer (some ⟨b, 0, none⟩)) := by have := hfk 4 (K3.mem_needs (by kernel_rfl)) _ rfl; rw [hRs] at this; exact this
      rw [hRs]
      refine K3.hop_plain rfl ?_
      have kc : ∀ v, fa.eval (.const v) = v := fun _ => rfl
      generalize fa.eval = ρ at *
      exact K3.out_run (v := .pointer (some ⟨b, 0, none⟩)) (w' := fw) (by simp [execOp, kc, k10, go_sem]) ⟨rfl, Below.refl _ _⟩
    refine K3.rel_cons (Φ := K3.Hop _ _ _ _ _ _ _) (k := 6) ?_ ?_
    · intro fa fw hfB hfN hfE hfk hft
      have k11 : fa.eval (.tmp 11) = (.pointer (some ⟨b, 0, none⟩)) := by have := hfk 5 (K3.mem_needs (by kernel_rfl)) _ rfl; rw [hRs] at this; exact this
      rw [hRs]
      refine K3.hop_plain rfl ?_
      have kc : ∀ v, fa.eval (.const v) = v := fun _ => rfl
      generalize fa.eval = ρ at *
      exact K3.out_run (v := .pointer (some ⟨b, 1, none⟩)) (w' := fw) (by simp [execOp, kc, k11, go_sem]) ⟨rfl, Below.refl _ _⟩
    refine K3.rel_cons (Φ := K3.Hop _ _ _ _ _ _ _) (k := 7) ?_ ?_
    · intro fa fw hfB hfN hfE hfk hft
      have hE : Below w10.drew.heap.size w10.drew fw := hfE (by kernel_rfl)
      have k12 : fa.eval (.tmp 12) = (.pointer (some ⟨b, 1, none⟩)) := by have := hfk 6 (K3.mem_needs (by kernel_rfl)) _ rfl; rw [hRs] at this; exact this
      rw [hRs]
      refine K3.hop_plain rfl ?_
      have hbx := (hE.block b (Nat.lt_of_lt_of_le hlt hd4.size)).trans (show w10.drew.heap[b]? = _ from hbox)
      exact out_load3 rfl k12 (by simp [stA, go_sem, block_cell hbx]) ⟨rfl, Below.refl _ _⟩
    refine K3.rel_cons (Φ := K3.Hop _ _ _ _ _ _ _) (k := 8) ?_ ?_
    · intro fa fw hfB hfN hfE hfk hft
      have k9 : (AtW w10 (.pointer (some ⟨d, 0, none⟩))) (fa.eval (.tmp 9)) fw := by have := hfk 3 (K3.mem_needs (by kernel_rfl)) _ rfl; rw [hRs] at this; exact this
      have k13 : fa.eval (.tmp 13) = (.string nm) := by have := hfk 7 (K3.mem_needs (by kernel_rfl)) _ rfl; rw [hRs] at this; exact this
      rw [hRs]
      refine K3.hop_plain rfl ?_
      have kf : fa.eval (.func 45) = .func (.func 45) #[] #[] := rfl
      have kc : ∀ v, fa.eval (.const v) = v := fun _ => rfl
      obtain ⟨kq, pb⟩ := k9
      refine K3.out_call (f := 45) (args := #[.pointer (some ⟨d, 0, none⟩), .string nm]) (by generalize fa.eval = ρ at *; simp [execOp, k13, kq, kf, kc, go_sem]) ?_
      exact (HSy.out fw pb).mono fun e w'' ⟨h1, h2, h3⟩ => ⟨_, h1, ⟨rfl, h2.1, h2.2⟩, h3⟩
    refine K3.rel_cons (Φ := K3.Hop _ _ _ _ _ _ _) (k := 9) ?_ ?_
    · intro fa fw hfB hfN hfE hfk hft
      have k14 : (AppW TD d (e9, h9, A9) w10) (fa.eval (.tmp 14)) fw := by have := hfk 8 (K3.mem_needs (by kernel_rfl)) _ rfl; rw [hRs] at this; exact this
      rw [hRs]
      refine K3.hop_plain rfl ?_
      refine K3.out_assign rfl ?_
      exact ⟨k14, Below.refl _ _⟩
    exact K3.rel_nil
  · intro fa fw hfB hfy hff hfs hfd
    rw [hRs] at hfy
    have k3 : (AppW TD d (e9, h9, A9) w10) (fa.tmps.getD 3 undef) fw := hfy 9 _ rfl (K3.unkilled (by decide))
    have e := K3.rel_frame [6, 7, 8, 9, 10, 11, 12, 13, 14, 3] (by kernel_rfl) hff hfs hfd
    simp only [List.foldl] at e
    clear hfy hff hfs hfd 
    generalize fa.tmps.getD 6 undef = x6 at e
    generalize fa.tmps.getD 7 undef = x7 at e
    generalize fa.tmps.getD 8 undef = x8 at e
    generalize fa.tmps.getD 9 undef = x9 at e
    generalize fa.tmps.getD 10 undef = x10 at e
    generalize fa.tmps.getD 11 undef = x11 at e
    generalize fa.tmps.getD 12 undef = x12 at e
    generalize fa.tmps.getD 13 undef = x13 at e
    generalize fa.tmps.getD 14 undef = x14 at e
    generalize fa.tmps.getD 3 undef = x3 at e k3
    simp [List.setIfInBounds_toArray, List.set_cons_succ, List.set_cons_zero] at e
    subst e
    obtain ⟨ke, kd, kk⟩ := k3
    rw [ke]
    have HTo := Lib.hid (HKv.out.dev kd kk)
    clear ke kd kk hfB HSy
    by_cases h5 : e9 = 5
    · have HQ := Lib.hid (show sync0 (e9, h9, A9) = (0, h9, A9) from by unfold sync0; rw [if_pos h5])
      have HE := Lib.hid (LogEnd.err (r := (0, h9, A9)) HTo.out)
      subst h5
      go_wp2_with fail
      go_ret
      rw [HQ.out]
      exact HE.out
    · have HQ := Lib.hid (show sync0 (e9, h9, A9) = (e9, h9, A9) from by unfold sync0; rw [if_neg h5])
      have HE := Lib.hid (LogEnd.err (r := (e9, h9, A9)) HTo.out)
      have k5 : (e9 == 5) = false := beq_eq_false_iff_ne.2 h5
      go_wp2_with fail
      go_ret
      rw [HQ.out]
      exact HE.out
end Go.Proofs.Ytbdlmdmbaajcmaa
