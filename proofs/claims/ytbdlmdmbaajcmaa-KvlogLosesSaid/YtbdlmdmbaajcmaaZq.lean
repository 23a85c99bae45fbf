/- The document's Put, Done, Write. -/
import Derived.Test.YtbdlmdmbaajcmaaZp
namespace Go.Proofs.Ytbdlmdmbaajcmaa
set_option linter.unusedVariables false
set_option linter.unusedSimpArgs false
open Go.ChangeShapes Go.WideShapes Go.ChangeAt Go.RowKit

theorem whereL_cons (e : En) (L : List En) (k : ByteArray) : whereL (e :: L) k = if e.1 = k then some 0 else (whereL L k).map (· + 1) := by
  unfold whereL
  rw [List.findIdx?_cons]
  by_cases h : e.1 = k
  · rw [if_pos h, if_pos (by simp [h])]
  · rw [if_neg h, if_neg (by simp [h])]
theorem dropL_cons (e : En) (L : List En) (k : ByteArray) : dropL (e :: L) k = if e.1 = k then L else e :: dropL L k := by
  unfold dropL
  rw [whereL_cons]
  by_cases h : e.1 = k
  · rw [if_pos h, if_pos h]; rfl
  · rw [if_neg h, if_neg h]
    cases whereL L k <;> rfl
theorem dropL_flt : ∀ (L : List En) (k : ByteArray), (L.map (·.1)).Nodup → fltL L k = dropL L k
  | [], k, _ => rfl
  | e :: L, k, h => by
    rw [List.map_cons, List.nodup_cons] at h
    rw [dropL_cons]
    unfold fltL
    by_cases he : e.1 = k
    · rw [if_pos he, List.filter_cons_of_neg (by simp [he]), List.filter_eq_self.2 (fun x hx => by
        simp only [ne_eq, decide_eq_true_eq]
        intro hk
        exact h.1 (List.mem_map.2 ⟨x, hx, by rw [hk, he]⟩))]
    · rw [if_neg he, List.filter_cons_of_pos (by simp [he])]
      exact congrArg (e :: ·) (dropL_flt L k h.2)
theorem dropL_sub (L : List En) (k : ByteArray) : (dropL L k).Sublist L := by
  unfold dropL
  split
  · exact List.eraseIdx_sublist ..
  · exact List.Sublist.refl _
theorem dropL_nd {L : List En} (k : ByteArray) (h : (L.map (·.1)).Nodup) : ((dropL L k).map (·.1)).Nodup := h.sublist ((dropL_sub L k).map _)
theorem dropL_not {L : List En} {k : ByteArray} (h : (L.map (·.1)).Nodup) : k ∉ (dropL L k).map (·.1) := by
  rw [← dropL_flt L k h]
  intro hk
  obtain ⟨e, he, rfl⟩ := List.mem_map.1 hk
  unfold fltL at he
  simpa using (List.mem_filter.1 he).2
theorem putN_nd {L : List En} {k v : ByteArray} (h : (L.map (·.1)).Nodup) : ((dropL L k ++ [(k, v)]).map (·.1)).Nodup := by
  rw [List.map_append, List.nodup_append]
  refine ⟨dropL_nd k h, by simp, fun a ha b hb => ?_⟩
  rw [List.map_cons, List.map_nil, List.mem_singleton] at hb
  intro e
  rw [hb] at e
  exact dropL_not h (e ▸ ha)
theorem doP_nd {L L2 : List En} {P : List ByteArray} (h : (L.map (·.1)).Nodup) (hp : doP L P = some L2) : (L2.map (·.1)).Nodup := by
  unfold doP at hp
  split at hp
  · injection hp with hp
    subst hp
    exact putN_nd h
  · split at hp
    · injection hp with hp
      subst hp
      exact dropL_nd _ h
    · cases hp
theorem doC_nd {L L2 : List En} {r : ByteArray} (h : (L.map (·.1)).Nodup) (hp : doC L r = some L2) : (L2.map (·.1)).Nodup := by
  unfold doC at hp
  cases hs : C.splitB r with
  | none => rw [hs] at hp; cases hp
  | some P => rw [hs] at hp; exact doP_nd h hp
theorem doG_nd {L : List En} (r : ByteArray) (h : (L.map (·.1)).Nodup) : ((doG L r).map (·.1)).Nodup := by
  unfold doG
  cases hd : doC L r with
  | none => exact h
  | some L2 => exact doC_nd h hd
theorem doAll_nd : ∀ (R : List ByteArray) {L : List En}, (L.map (·.1)).Nodup → ((doAll L R).map (·.1)).Nodup
  | [], L, h => h
  | r :: R, L, h => doAll_nd R (doG_nd r h)
/-! ### Rows of entries, in whatever blocks -/
theorem ownG_same {w : World} {e : TypeId} {s base : Nat} {v : Value} {n : Nat} {xs : List Value} (h : w.ownsRow base e s v n xs) {w' : World} (q : ∀ g, v.ownBlock = some g → w'.heap[g]? = w.heap[g]?) : w'.ownsRow base e s v n xs := by
  refine ⟨h.1, ?_⟩
  rcases h.2 with h | ⟨g, cap, cur, hv, hg, hh, rest⟩
  · exact .inl h
  · exact .inr ⟨g, cap, cur, hv, hg, (q g (by rw [hv]; rfl)).trans hh, rest⟩
theorem ownG_lt {w : World} {e : TypeId} {s base : Nat} {v : Value} {n : Nat} {xs : List Value} (h : w.ownsRow base e s v n xs) : ∀ g, v.ownBlock = some g → g < w.heap.size ∧ base ≤ g ∧ ∃ cur, w.heap[g]? = some (.cells cur e (0, 0)) := fun g hg => by
  rcases h.2 with ⟨hv, _⟩ | ⟨g2, cap, cur, hv, hb, hh, rest⟩
  · rw [hv] at hg; cases hg
  · rw [hv] at hg
    injection hg with hg
    subst hg
    exact ⟨lt_of_block hh, hb, cur, hh⟩
structure RowL (T : Nat → Prop) (L : List En) (v : Value) (w : World) : Prop where
  f : ∃ base, w.ownsRow base 56 2 v L.length (LF enV L) ∧ ∀ g, v.ownBlock = some g → T g
theorem RowL.lat {T : Nat → Prop} {L : List En} {v : Value} {w : World} (h : RowL T L v w) : LAt 2 enV w v L := by
  obtain ⟨b, h1, h2⟩ := h.f
  exact LAt.own (fun x _ => enV_len x) h1
theorem RowL.below {T : Nat → Prop} {L : List En} {v : Value} {w w' : World} (h : RowL T L v w) (hB : Below w.heap.size w w') : RowL T L v w' := by
  obtain ⟨b, h1, h2⟩ := h.f
  exact ⟨b, gen_own_below h1 hB, h2⟩
theorem RowL.kept {T T2 : Nat → Prop} {L : List En} {v : Value} {w w' : World} (h : RowL T L v w) (hk : Kept T2 w w') (hd : ∀ k, T k → ¬ T2 k) : RowL T L v w' := by
  obtain ⟨b, h1, h2⟩ := h.f
  exact ⟨b, ownG_same h1 (fun g hg => hk.block g (ownG_lt h1 g hg).1 (hd g (h2 g hg))), h2⟩
theorem RowL.mono {T T2 : Nat → Prop} {L : List En} {v : Value} {w : World} (h : RowL T L v w) (hd : ∀ k, T k → T2 k) : RowL T2 L v w := by
  obtain ⟨b, h1, h2⟩ := h.f
  exact ⟨b, h1, fun g hg => hd g (h2 g hg)⟩
theorem RowL.slice {T : Nat → Prop} {L : List En} {v : Value} {w : World} (h : RowL T L v w) : ∃ p c, v = .slice p L.length c := by
  obtain ⟨b, h1, _⟩ := h.f
  rcases h1.2 with ⟨h1, h2⟩ | ⟨g, cap, cur, hv, _⟩
  · subst h1; exact ⟨none, 0, by rw [h2]⟩
  · exact ⟨_, cap, hv⟩
theorem EnsEnd.row {T : Nat → Prop} {G : List En} {w w' : World} {v : Value} (h : w'.ownsRow w.heap.size 56 2 v G.length (LF enV G)) : RowL (Gr T w w') G v w' :=
  ⟨_, h, fun g hg => .inr ⟨(ownG_lt h g hg).2.1, (ownG_lt h g hg).1⟩⟩
structure RowW (w0 : World) (G : List En) (v : Value) (w : World) : Prop where
  o : w.ownsRow w0.heap.size 56 2 v G.length (LF enV G)
  bl : Below w0.heap.size w0 w
theorem RowW.st1 (w0 : World) (G : List En) : K3.St1 (RowW w0 G) := fun v w1 w2 h hB => ⟨gen_own_below h.o hB, h.bl.trans (hB.mono h.bl.size)⟩
structure LatW (w0 : World) (G : List En) (v : Value) (w : World) : Prop where
  o : LAt 2 enV w v G
theorem LatW.st1 (w0 : World) (G : List En) : K3.St1 (LatW w0 G) := fun v w1 w2 h hB => ⟨h.o.below hB⟩
theorem slice_enR (w : World) (x : En) : (Instr.buildSlice 32 1 #[(0, .agg (enV x).toArray)]).run Try.prog w = .ok (.slice (some ⟨w.heap.size, 0, none⟩) 1 1) (w.alloc (.cells (enV x).toArray 56)) := by
  simp [enV, go_sem, Instr.buildSlice]
theorem build_enR (w : World) (x y : ByteArray) : (Instr.build 56 #[(0, .string x), (1, .string y)]).run Try.prog w = .ok (.agg (enV (x, y)).toArray) w := by
  simp [enV, go_sem, Instr.build]
set_option maxRecDepth 100000 in
set_option maxHeartbeats 1000000 in
/-- With an entry as the youngest. -/
theorem refPutL_any (L : List En) (u : Value) (w : World) (hu : LAt 2 enV w u L) (hl : L.length ≤ 4194304) (nd : (L.map (·.1)).Nodup) (k v : ByteArray) :
    Calls Try.prog 52 #[u, .agg #[.string k, .string v]] w (EnsEnd (dropL L k ++ [(k, v)]) w) := by
  have HDr := Lib.hid (show ∀ w1, Below w.heap.size w w1 → Calls Try.prog 53 #[u, .string k] w1 (EnsEnd (dropL L k) w1) from fun w1 hB => by
    rw [← dropL_flt L k nd]
    exact refDrop_any L u w1 (hu.below hB) (by omega) k)
  have hdl := dropL_len L k
  obtain ⟨p, c, rfl, _⟩ := gen_shape hu
  obtain ⟨hbB, hbh⟩ := box2T w k v 56
  have HB0 := Lib.hid hbB
  have HDr2 := Lib.hid (fun w1 (hB : Below (w.alloc (.cells #[.string k, .string v] 56)).heap.size (w.alloc (.cells #[.string k, .string v] 56)) w1) => HDr.out w1 (hbB.trans (hB.mono hbB.size)))
  clear hu nd HDr hbB
  go_enter Try.func52, Try.ntmps52
  go_upto_region 1 with fail
  generalize w.alloc (.cells #[.string k, .string v] 56) = w10 at *
  have hbox := hbh
  obtain ⟨bx, hbxe⟩ : ∃ bx, bx = w.heap.size := ⟨_, rfl⟩
  rw [← hbxe] at hbox ⊢
  have hlt := lt_of_block hbox
  have Hbx := Lib.hid hbxe
  clear hbh hbxe
  have hd4 : Below w10.heap.size w10 w10.drew := (Below.refl _ _).drew
  have hRL : ∃ Rs : List (Value → World → Prop), Rs = [K3.PureV (.slice p L.length c),
      K3.PureV (.pointer (some ⟨bx, 0, none⟩)),
      K3.PureV (.string k),
      RowW w10 (dropL L k),
      K3.PureV (.agg (enV (k, v)).toArray),
      LatW w10 [(k, v)],
      RowW w10 (dropL L k ++ [(k, v)]),
      RowW w10 (dropL L k ++ [(k, v)])] := ⟨_, rfl⟩
  obtain ⟨Rs, hRs⟩ := hRL
  refine K3.wp_region_rel2 w10.heap.size (Nat.le_refl _) (K3.RL Rs) [2, 2, 2, 1, 2, 1, 1, 1] [1, 1, 1, 1, 1, 1, 2, 1] [[], [], [], [], [], [], [3, 5], []] (by kernel_rfl) (by kernel_rfl) (K3.RL.st1 (by rw [hRs]; exact K3.st1_cons (K3.PureV.st1 _) (K3.st1_cons (K3.PureV.st1 _) (K3.st1_cons (K3.PureV.st1 _) (K3.st1_cons (RowW.st1 _ _) (K3.st1_cons (K3.PureV.st1 _) (K3.st1_cons (LatW.st1 _ _) (K3.st1_cons (RowW.st1 _ _) (K3.st1_cons (RowW.st1 _ _) (K3.st1_nil)))))))))) (K3.RL.st2 (by rw [hRs]; exact K3.st2_cons (K3.PureV.st2 _ _ _) (K3.st2_cons (K3.PureV.st2 _ _ _) (K3.st2_cons (K3.PureV.st2 _ _ _) (K3.st2_skip (K3.st2_cons (K3.PureV.st2 _ _ _) (K3.st2_skip (K3.st2_skip (K3.st2_skip (K3.st2_nil)))))))))) ?_ ?_ ?_
  · intro i o d hi hd
    have hmem := List.mem_of_getElem? hi
    simp only [List.mem_cons, List.not_mem_nil, or_false] at hmem
    rcases hmem with rfl | rfl | rfl | rfl | rfl | rfl | rfl | rfl <;> simp at hd <;> (subst hd; simp)
  · refine K3.rel_start (Φ := K3.Hop _ _ _ _ _ _ _) ?_
    refine K3.rel_cons (Φ := K3.Hop _ _ _ _ _ _ _) (k := 0) ?_ ?_
    · intro fa fw hfB hfN hfE hfk hft
      have k0 : fa.eval (.tmp 0) = .slice p L.length c := hft 0 (K3.mem_looks (by kernel_rfl)) (K3.noneed (by kernel_rfl))
      rw [hRs]
      refine K3.hop_plain rfl ?_
      refine K3.out_move rfl ?_
      exact ⟨k0, Below.refl _ _⟩
    refine K3.rel_cons (Φ := K3.Hop _ _ _ _ _ _ _) (k := 1) ?_ ?_
    · intro fa fw hfB hfN hfE hfk hft
      have k3 : fa.eval (.tmp 3) = .pointer (some ⟨bx, 0, none⟩) := hft 3 (K3.mem_looks (by kernel_rfl)) (K3.noneed (by kernel_rfl))
      rw [hRs]
      refine K3.hop_plain rfl ?_
      have kc : ∀ v, fa.eval (.const v) = v := fun _ => rfl
      generalize fa.eval = ρ at *
      exact K3.out_run (v := .pointer (some ⟨bx, 0, none⟩)) (w' := fw) (by simp [execOp, kc, k3, go_sem]) ⟨rfl, Below.refl _ _⟩
    refine K3.rel_cons (Φ := K3.Hop _ _ _ _ _ _ _) (k := 2) ?_ ?_
    · intro fa fw hfB hfN hfE hfk hft
      have hE : Below w10.drew.heap.size w10.drew fw := hfE (by kernel_rfl)
      have k6 : fa.eval (.tmp 6) = (.pointer (some ⟨bx, 0, none⟩)) := by have := hfk 1 (K3.mem_needs (by kernel_rfl)) _ rfl; rw [hRs] at this; exact this
      rw [hRs]
      refine K3.hop_plain rfl ?_
      have hbx := (hE.block bx (Nat.lt_of_lt_of_le hlt hd4.size)).trans (show w10.drew.heap[bx]? = _ from hbox)
      exact out_load3 rfl k6 (by simp [enV, go_sem, block_cell hbx]) ⟨rfl, Below.refl _ _⟩
    refine K3.rel_cons (Φ := K3.Hop _ _ _ _ _ _ _) (k := 3) ?_ ?_
    · intro fa fw hfB hfN hfE hfk hft
      have hE : Below w10.drew.heap.size w10.drew fw := hfE (by kernel_rfl)
      have k5 : fa.eval (.tmp 5) = (.slice p L.length c) := by have := hfk 0 (K3.mem_needs (by kernel_rfl)) _ rfl; rw [hRs] at this; exact this
      have k7 : fa.eval (.tmp 7) = (.string k) := by have := hfk 2 (K3.mem_needs (by kernel_rfl)) _ rfl; rw [hRs] at this; exact this
      rw [hRs]
      refine K3.hop_plain rfl ?_
      have kf : fa.eval (.func 53) = .func (.func 53) #[] #[] := rfl
      have kc : ∀ v, fa.eval (.const v) = v := fun _ => rfl
      have hE2 := hd4.trans (hE.mono hd4.size)
      refine K3.out_call (f := 53) (args := #[.slice p L.length c, .string k]) (by generalize fa.eval = ρ at *; simp [execOp, k5, k7, kf, kc, go_sem]) ?_
      exact (HDr2.out fw hE2).mono fun e w'' ⟨v', h1, h2, h3⟩ => ⟨v', h1, ⟨own_base h2 hE2.size, hE2.trans (h3.mono hE2.size)⟩, h3⟩
    refine K3.rel_cons (Φ := K3.Hop _ _ _ _ _ _ _) (k := 4) ?_ ?_
    · intro fa fw hfB hfN hfE hfk hft
      have hE : Below w10.drew.heap.size w10.drew fw := hfE (by kernel_rfl)
      have k3 : fa.eval (.tmp 3) = .pointer (some ⟨bx, 0, none⟩) := hft 3 (K3.mem_looks (by kernel_rfl)) (K3.noneed (by kernel_rfl))
      rw [hRs]
      refine K3.hop_plain rfl ?_
      have hbx := (hE.block bx (Nat.lt_of_lt_of_le hlt hd4.size)).trans (show w10.drew.heap[bx]? = _ from hbox)
      exact out_load3 rfl k3 (by simp [enV, go_sem, block_cell hbx]) ⟨rfl, Below.refl _ _⟩
    refine K3.rel_cons (Φ := K3.Hop _ _ _ _ _ _ _) (k := 5) ?_ ?_
    · intro fa fw hfB hfN hfE hfk hft
      have k9 : fa.eval (.tmp 9) = (.agg (enV (k, v)).toArray) := by have := hfk 4 (K3.mem_needs (by kernel_rfl)) _ rfl; rw [hRs] at this; exact this
      rw [hRs]
      refine K3.hop_plain rfl ?_
      exact out_buildSlice3 rfl (by simp only [List.map_toArray, List.map_cons, List.map_nil, k9]) (slice_enR fw (k, v)) ⟨⟨LAt.block rfl rfl (heap_alloc_new fw (.cells (enV (k, v)).toArray 56))⟩, (Below.refl _ _).alloc (Nat.le_refl _) _⟩
    refine K3.rel_cons (Φ := K3.Hop _ _ _ _ _ _ _) (k := 6) ?_ ?_
    · intro fa fw hfB hfN hfE hfk hft
      have k8 : (RowW w10 (dropL L k)) (fa.eval (.tmp 8)) fw := by have := hfk 3 (K3.mem_needs (by kernel_rfl)) _ rfl; rw [hRs] at this; exact this
      have k10 : (LatW w10 [(k, v)]) (fa.eval (.tmp 10)) fw := by have := hfk 5 (K3.mem_needs (by kernel_rfl)) _ rfl; rw [hRs] at this; exact this
      rw [hRs]
      refine K3.hop_plain rfl ?_
      obtain ⟨ho0, hB0⟩ := k8
      obtain ⟨hl0⟩ := k10
      obtain ⟨v', w', hr, ho, hg, ha⟩ := run_append_gen2 eltR fw w10.heap.size _ _ _ _ [(k, v)] ho0 hl0 (by simp only [List.length_cons, List.length_nil]; omega) (by unfold maxLen; simp only [List.length_cons, List.length_nil]; omega) hB0.size
      have hgr : Below w10.heap.size fw w' := (Below.refl _ _).grown hg hB0.size (fun q hq => (World.ownsRow.lt ho0 q hq).1)
      exact out_append_k3 (.tmp 8) (.tmp 10) 32 rfl rfl rfl hr ⟨⟨by rw [List.length_append, LF_app]; exact ho, hB0.trans hgr⟩, hgr⟩
    refine K3.rel_cons (Φ := K3.Hop _ _ _ _ _ _ _) (k := 7) ?_ ?_
    · intro fa fw hfB hfN hfE hfk hft
      have k11 : (RowW w10 (dropL L k ++ [(k, v)])) (fa.eval (.tmp 11)) fw := by have := hfk 6 (K3.mem_needs (by kernel_rfl)) _ rfl; rw [hRs] at this; exact this
      rw [hRs]
      refine K3.hop_plain rfl ?_
      refine K3.out_assign rfl ?_
      exact ⟨k11, Below.refl _ _⟩
    exact K3.rel_nil
  · intro fa fw hfB hfy hff hfs hfd
    rw [hRs] at hfy
    have k4 : (RowW w10 (dropL L k ++ [(k, v)])) (fa.tmps.getD 4 undef) fw := hfy 7 _ rfl (K3.unkilled (by decide))
    have e := K3.rel_frame [5, 6, 7, 8, 9, 10, 11, 4] (by kernel_rfl) hff hfs hfd
    simp only [List.foldl] at e
    clear hfy hff hfs hfd 
    generalize fa.tmps.getD 5 undef = x5 at e
    generalize fa.tmps.getD 6 undef = x6 at e
    generalize fa.tmps.getD 7 undef = x7 at e
    generalize fa.tmps.getD 8 undef = x8 at e
    generalize fa.tmps.getD 9 undef = x9 at e
    generalize fa.tmps.getD 10 undef = x10 at e
    generalize fa.tmps.getD 11 undef = x11 at e
    generalize fa.tmps.getD 4 undef = x4 at e k4
    simp [List.setIfInBounds_toArray, List.set_cons_succ, List.set_cons_zero] at e
    subst e
    obtain ⟨ko, kb⟩ := k4
    have HE := Lib.hid (show EnsEnd (dropL L k ++ [(k, v)]) w (.returned x4) fw from ⟨x4, rfl, own_base ko HB0.out.size, HB0.out.trans (kb.mono HB0.out.size)⟩)
    clear ko kb hfB HDr2 hd4 hbox hlt
    go_wp2_with fail
    go_ret
    exact HE.out
/-- What Done leads to. -/
def DoneEnd (T : Nat → Prop) (L : List En) (r : Option (List En)) (w : World) (e : Ending) (w' : World) : Prop := ∃ v', e = .returned (.tuple #[v', .bool r.isSome]) ∧ RowL (Gr T w w') (r.getD L) v' w' ∧ Below w.heap.size w w'
set_option maxRecDepth 100000 in
set_option maxHeartbeats 2000000 in
/-- A record is done. -/
theorem done_any {T : Nat → Prop} (L : List En) (u : Value) (w : World) (hu : RowL T L u w) (hl : L.length ≤ 4194304) (nd : (L.map (·.1)).Nodup) (r : ByteArray) (hr : r.size ≤ 1048576) :
    Calls Try.prog 28 #[u, .string r] w (DoneEnd T L (doC L r) w) := by
  have HU := Lib.hid hu
  have HC := Lib.hid (C.refSplit_any r w hr)
  have HR := Lib.hid (show doC L r = (C.splitB r).bind (doP L) from rfl)
  have HNd := Lib.hid nd
  obtain ⟨p, c, rfl⟩ := hu.slice
  have HSa := Lib.hid (fun (w1 : World) (hB : Below w.heap.size w w1) => show DoneEnd T L none w (.returned (.tuple #[.slice p L.length c, .bool false])) w1 from ⟨_, rfl, (hu.below hB).mono (fun k hk => .inl hk), hB⟩)
  clear hu nd
  cases hsp : C.splitB r with
  | none =>
    rw [hsp] at HC HR
    rw [show doC L r = none from HR.out]
    clear hsp HR
    go_enter Try.func28, Try.ntmps28
    go_wp2_with fail
    refine HC.out.mono ?_
    rintro e w1 ⟨hB, u5, rfl⟩
    have HE := Lib.hid (HSa.out w1 hB)
    clear hB HC
    go_wp2_with fail
    go_ret2
    exact HE.out
  | some P =>
  rw [hsp] at HC HR
  rw [show doC L r = doP L P from HR.out]
  clear hsp HR
  by_cases h3 : P.length = 3
  · obtain ⟨a, k, v, rfl⟩ : ∃ a k v, P = [a, k, v] := by
      match P, h3 with
      | [a, k, v], _ => exact ⟨a, k, v, rfl⟩
    have ka := str_lit a #[112, 117, 116]
    by_cases hp : a = wPut
    · rw [show doP L [a, k, v] = some (dropL L k ++ [(k, v)]) from by unfold doP; rw [if_pos ⟨rfl, hp⟩]; rfl]
      rw [decide_eq_true hp] at ka
      clear h3 hp
      go_enter Try.func28, Try.ntmps28
      go_wp2_with fail
      refine HC.out.mono ?_
      rintro e w1 ⟨hB, u5, rfl, hown⟩
      obtain ⟨_, hq⟩ := parts_cells hown
      obtain ⟨g5, c5, rfl, hg0, hg5, hc5, hm5, hcell⟩ := hq (by simp)
      have hc0 := hcell 0 (by simp)
      have hc1 := hcell 1 (by simp)
      have hc2 := hcell 2 (by simp)
      simp only [List.getElem_cons_zero, List.getElem_cons_succ] at hc0 hc1 hc2
      have HB := Lib.hid hB
      have HPu := Lib.hid (fun (w2 : World) (h2 : Below w1.heap.size w1 w2) => refPutL_any L _ w2 ((HU.out.below (hB.trans (h2.mono hB.size))).lat) hl HNd.out k v)
      simp only [List.length_cons, List.length_nil] at hc5 ⊢
      clear hB hown hcell HC HU
      go_upto_region 3 with fail
      generalize w1 = w10 at *
      have hd4 : Below w10.heap.size w10 w10.drew := (Below.refl _ _).drew
      have hRL : ∃ Rs : List (Value → World → Prop), Rs = [K3.PureV (.slice p L.length c),
          K3.PureV (.slice (some ⟨g5, 0, none⟩) 3 c5),
          K3.PureV (.pointer (some ⟨g5, 1, none⟩)),
          K3.PureV (.string k),
          K3.PureV (.slice (some ⟨g5, 0, none⟩) 3 c5),
          K3.PureV (.pointer (some ⟨g5, 2, none⟩)),
          K3.PureV (.string v),
          K3.PureV (.agg (enV (k, v)).toArray),
          RowW w10 (dropL L k ++ [(k, v)]),
          RowW w10 (dropL L k ++ [(k, v)]),
          K3.PureV (.bool true)] := ⟨_, rfl⟩
      obtain ⟨Rs, hRs⟩ := hRL
      refine K3.wp_region_rel2 w10.heap.size (Nat.le_refl _) (K3.RL Rs) [2, 2, 2, 2, 2, 2, 2, 2, 1, 1, 2] [1, 1, 1, 1, 1, 1, 1, 1, 1, 1, 1] [] (by kernel_rfl) (by kernel_rfl) (K3.RL.st1 (by rw [hRs]; exact K3.st1_cons (K3.PureV.st1 _) (K3.st1_cons (K3.PureV.st1 _) (K3.st1_cons (K3.PureV.st1 _) (K3.st1_cons (K3.PureV.st1 _) (K3.st1_cons (K3.PureV.st1 _) (K3.st1_cons (K3.PureV.st1 _) (K3.st1_cons (K3.PureV.st1 _) (K3.st1_cons (K3.PureV.st1 _) (K3.st1_cons (RowW.st1 _ _) (K3.st1_cons (RowW.st1 _ _) (K3.st1_cons (K3.PureV.st1 _) (K3.st1_nil))))))))))))) (K3.RL.st2 (by rw [hRs]; exact K3.st2_cons (K3.PureV.st2 _ _ _) (K3.st2_cons (K3.PureV.st2 _ _ _) (K3.st2_cons (K3.PureV.st2 _ _ _) (K3.st2_cons (K3.PureV.st2 _ _ _) (K3.st2_cons (K3.PureV.st2 _ _ _) (K3.st2_cons (K3.PureV.st2 _ _ _) (K3.st2_cons (K3.PureV.st2 _ _ _) (K3.st2_cons (K3.PureV.st2 _ _ _) (K3.st2_skip (K3.st2_skip (K3.st2_cons (K3.PureV.st2 _ _ _) (K3.st2_nil))))))))))))) ?_ ?_ ?_
      · intro i o d hi hd
        have hmem := List.mem_of_getElem? hi
        simp only [List.mem_cons, List.not_mem_nil, or_false] at hmem
        rcases hmem with rfl | rfl | rfl | rfl | rfl | rfl | rfl | rfl | rfl | rfl | rfl <;> simp at hd <;> (subst hd; simp)
      · refine K3.rel_start (Φ := K3.Hop _ _ _ _ _ _ _) ?_
        refine K3.rel_cons (Φ := K3.Hop _ _ _ _ _ _ _) (k := 0) ?_ ?_
        · intro fa fw hfB hfN hfE hfk hft
          have k0 : fa.eval (.tmp 0) = .slice p L.length c := hft 0 (K3.mem_looks (by kernel_rfl)) (K3.noneed (by kernel_rfl))
          rw [hRs]
          refine K3.hop_plain rfl ?_
          refine K3.out_move rfl ?_
          exact ⟨k0, Below.refl _ _⟩
        refine K3.rel_cons (Φ := K3.Hop _ _ _ _ _ _ _) (k := 1) ?_ ?_
        · intro fa fw hfB hfN hfE hfk hft
          have k6 : fa.eval (.tmp 6) = .slice (some ⟨g5, 0, none⟩) 3 c5 := hft 6 (K3.mem_looks (by kernel_rfl)) (K3.noneed (by kernel_rfl))
          rw [hRs]
          refine K3.hop_plain rfl ?_
          refine K3.out_move rfl ?_
          exact ⟨k6, Below.refl _ _⟩
        refine K3.rel_cons (Φ := K3.Hop _ _ _ _ _ _ _) (k := 2) ?_ ?_
        · intro fa fw hfB hfN hfE hfk hft
          have k26 : fa.eval (.tmp 26) = (.slice (some ⟨g5, 0, none⟩) 3 c5) := by have := hfk 1 (K3.mem_needs (by kernel_rfl)) _ rfl; rw [hRs] at this; exact this
          rw [hRs]
          refine K3.hop_plain rfl ?_
          have kc : ∀ v, fa.eval (.const v) = v := fun _ => rfl
          generalize fa.eval = ρ at *
          exact K3.out_run (v := .pointer (some ⟨g5, 1, none⟩)) (w' := fw) (by simp [execOp, kc, k26, go_sem]) ⟨rfl, Below.refl _ _⟩
        refine K3.rel_cons (Φ := K3.Hop _ _ _ _ _ _ _) (k := 3) ?_ ?_
        · intro fa fw hfB hfN hfE hfk hft
          have hE : Below w10.drew.heap.size w10.drew fw := hfE (by kernel_rfl)
          have k27 : fa.eval (.tmp 27) = (.pointer (some ⟨g5, 1, none⟩)) := by have := hfk 2 (K3.mem_needs (by kernel_rfl)) _ rfl; rw [hRs] at this; exact this
          rw [hRs]
          refine K3.hop_plain rfl ?_
          have hbx := (hE.cell (p := ⟨g5, 1, none⟩) (Nat.lt_of_lt_of_le hg5 hd4.size)).trans (show w10.drew.cell? ⟨g5, 1, none⟩ = _ from hc1)
          exact out_load3 rfl k27 (by simp [go_sem, hbx]) ⟨rfl, Below.refl _ _⟩
        refine K3.rel_cons (Φ := K3.Hop _ _ _ _ _ _ _) (k := 4) ?_ ?_
        · intro fa fw hfB hfN hfE hfk hft
          have k6 : fa.eval (.tmp 6) = .slice (some ⟨g5, 0, none⟩) 3 c5 := hft 6 (K3.mem_looks (by kernel_rfl)) (K3.noneed (by kernel_rfl))
          rw [hRs]
          refine K3.hop_plain rfl ?_
          refine K3.out_move rfl ?_
          exact ⟨k6, Below.refl _ _⟩
        refine K3.rel_cons (Φ := K3.Hop _ _ _ _ _ _ _) (k := 5) ?_ ?_
        · intro fa fw hfB hfN hfE hfk hft
          have k29 : fa.eval (.tmp 29) = (.slice (some ⟨g5, 0, none⟩) 3 c5) := by have := hfk 4 (K3.mem_needs (by kernel_rfl)) _ rfl; rw [hRs] at this; exact this
          rw [hRs]
          refine K3.hop_plain rfl ?_
          have kc : ∀ v, fa.eval (.const v) = v := fun _ => rfl
          generalize fa.eval = ρ at *
          exact K3.out_run (v := .pointer (some ⟨g5, 2, none⟩)) (w' := fw) (by simp [execOp, kc, k29, go_sem]) ⟨rfl, Below.refl _ _⟩
        refine K3.rel_cons (Φ := K3.Hop _ _ _ _ _ _ _) (k := 6) ?_ ?_
        · intro fa fw hfB hfN hfE hfk hft
          have hE : Below w10.drew.heap.size w10.drew fw := hfE (by kernel_rfl)
          have k30 : fa.eval (.tmp 30) = (.pointer (some ⟨g5, 2, none⟩)) := by have := hfk 5 (K3.mem_needs (by kernel_rfl)) _ rfl; rw [hRs] at this; exact this
          rw [hRs]
          refine K3.hop_plain rfl ?_
          have hbx := (hE.cell (p := ⟨g5, 2, none⟩) (Nat.lt_of_lt_of_le hg5 hd4.size)).trans (show w10.drew.cell? ⟨g5, 2, none⟩ = _ from hc2)
          exact out_load3 rfl k30 (by simp [go_sem, hbx]) ⟨rfl, Below.refl _ _⟩
        refine K3.rel_cons (Φ := K3.Hop _ _ _ _ _ _ _) (k := 7) ?_ ?_
        · intro fa fw hfB hfN hfE hfk hft
          have k28 : fa.eval (.tmp 28) = (.string k) := by have := hfk 3 (K3.mem_needs (by kernel_rfl)) _ rfl; rw [hRs] at this; exact this
          have k31 : fa.eval (.tmp 31) = (.string v) := by have := hfk 6 (K3.mem_needs (by kernel_rfl)) _ rfl; rw [hRs] at this; exact this
          rw [hRs]
          refine K3.hop_plain rfl ?_
          exact out_build3 rfl (by simp only [List.map_toArray, List.map_cons, List.map_nil, k28, k31]) (build_enR fw k v) ⟨rfl, Below.refl _ _⟩
        refine K3.rel_cons (Φ := K3.Hop _ _ _ _ _ _ _) (k := 8) ?_ ?_
        · intro fa fw hfB hfN hfE hfk hft
          have hE : Below w10.drew.heap.size w10.drew fw := hfE (by kernel_rfl)
          have k25 : fa.eval (.tmp 25) = (.slice p L.length c) := by have := hfk 0 (K3.mem_needs (by kernel_rfl)) _ rfl; rw [hRs] at this; exact this
          have k32 : fa.eval (.tmp 32) = (.agg (enV (k, v)).toArray) := by have := hfk 7 (K3.mem_needs (by kernel_rfl)) _ rfl; rw [hRs] at this; exact this
          rw [hRs]
          refine K3.hop_plain rfl ?_
          have kf : fa.eval (.func 52) = .func (.func 52) #[] #[] := rfl
          have kc : ∀ v, fa.eval (.const v) = v := fun _ => rfl
          have hE2 := hd4.trans (hE.mono hd4.size)
          refine K3.out_call (f := 52) (args := #[.slice p L.length c, .agg (enV (k, v)).toArray]) (by generalize fa.eval = ρ at *; simp [execOp, k25, k32, kf, kc, go_sem]) ?_
          exact (HPu.out fw hE2).mono fun e w'' ⟨v', h1, h2, h3⟩ => ⟨v', h1, ⟨own_base h2 hE2.size, hE2.trans (h3.mono hE2.size)⟩, h3⟩
        refine K3.rel_cons (Φ := K3.Hop _ _ _ _ _ _ _) (k := 9) ?_ ?_
        · intro fa fw hfB hfN hfE hfk hft
          have k33 : (RowW w10 (dropL L k ++ [(k, v)])) (fa.eval (.tmp 33)) fw := by have := hfk 8 (K3.mem_needs (by kernel_rfl)) _ rfl; rw [hRs] at this; exact this
          rw [hRs]
          refine K3.hop_plain rfl ?_
          refine K3.out_assign rfl ?_
          exact ⟨k33, Below.refl _ _⟩
        refine K3.rel_cons (Φ := K3.Hop _ _ _ _ _ _ _) (k := 10) ?_ ?_
        · intro fa fw hfB hfN hfE hfk hft
          rw [hRs]
          refine K3.hop_plain rfl ?_
          refine K3.out_assign rfl ?_
          exact ⟨rfl, Below.refl _ _⟩
        exact K3.rel_nil
      · intro fa fw hfB hfy hff hfs hfd
        rw [hRs] at hfy
        have k4 : (RowW w10 (dropL L k ++ [(k, v)])) (fa.tmps.getD 4 undef) fw := hfy 9 _ rfl (K3.unkilled (by decide))
        have k5 : fa.eval (.tmp 5) = (.bool true) := hfy 10 _ rfl (K3.unkilled (by decide))
        have e := K3.rel_frame [25, 26, 27, 28, 29, 30, 31, 32, 33, 4, 5] (by kernel_rfl) hff hfs hfd
        simp only [List.foldl] at e
        rw [show fa.tmps.getD 5 undef = .bool true from k5] at e
        clear hfy hff hfs hfd k5
        generalize fa.tmps.getD 25 undef = x25 at e
        generalize fa.tmps.getD 26 undef = x26 at e
        generalize fa.tmps.getD 27 undef = x27 at e
        generalize fa.tmps.getD 28 undef = x28 at e
        generalize fa.tmps.getD 29 undef = x29 at e
        generalize fa.tmps.getD 30 undef = x30 at e
        generalize fa.tmps.getD 31 undef = x31 at e
        generalize fa.tmps.getD 32 undef = x32 at e
        generalize fa.tmps.getD 33 undef = x33 at e
        generalize fa.tmps.getD 4 undef = x4 at e k4
        simp [List.setIfInBounds_toArray, List.set_cons_succ, List.set_cons_zero] at e
        subst e
        obtain ⟨ko, kb⟩ := k4
        have HE := Lib.hid (show DoneEnd T L (some (dropL L k ++ [(k, v)])) w (.returned (.tuple #[x4, .bool true])) fw from ⟨x4, rfl, (EnsEnd.row (T := T) ko).mono (fun q hq => hq.imp id (fun x => ⟨Nat.le_trans HB.out.size x.1, x.2⟩)), HB.out.trans (kb.mono HB.out.size)⟩)
        clear ko kb hfB HPu hd4 hc0 hc1 hc2
        go_wp2_with fail
        go_ret2
        exact HE.out
    · rw [show doP L [a, k, v] = none from by unfold doP; rw [if_neg (fun h => hp h.2), if_neg (fun h => by simp at h)]]
      rw [decide_eq_false hp] at ka
      clear h3 hp
      go_enter Try.func28, Try.ntmps28
      go_wp2_with fail
      refine HC.out.mono ?_
      rintro e w1 ⟨hB, u5, rfl, hown⟩
      obtain ⟨_, hq⟩ := parts_cells hown
      obtain ⟨g5, c5, rfl, hg0, hg5, hc5, hm5, hcell⟩ := hq (by simp)
      have hc0 := hcell 0 (by simp)
      simp only [List.getElem_cons_zero] at hc0
      have HE := Lib.hid (HSa.out w1 hB)
      simp only [List.length_cons, List.length_nil] at hc5 ⊢
      clear hB hown hcell HC
      go_wp2_with fail
      go_ret2
      exact HE.out
  by_cases h2 : P.length = 2
  · obtain ⟨a, k, rfl⟩ : ∃ a k, P = [a, k] := by
      match P, h2 with
      | [a, k], _ => exact ⟨a, k, rfl⟩
    have ka := str_lit a #[103, 111, 110, 101]
    by_cases hp : a = wGone
    · rw [show doP L [a, k] = some (dropL L k) from by unfold doP; rw [if_neg (fun h => by simp at h), if_pos ⟨rfl, hp⟩]; rfl]
      rw [decide_eq_true hp] at ka
      clear h3 h2 hp
      go_enter Try.func28, Try.ntmps28
      go_wp2_with fail
      refine HC.out.mono ?_
      rintro e w1 ⟨hB, u5, rfl, hown⟩
      obtain ⟨_, hq⟩ := parts_cells hown
      obtain ⟨g5, c5, rfl, hg0, hg5, hc5, hm5, hcell⟩ := hq (by simp)
      have hc0 := hcell 0 (by simp)
      have hc1 := hcell 1 (by simp)
      simp only [List.getElem_cons_zero, List.getElem_cons_succ] at hc0 hc1
      have HB := Lib.hid hB
      have HD := Lib.hid (refDrop_any L _ w1 (HU.out.below hB).lat (by omega) k)
      rw [dropL_flt L k HNd.out] at HD
      simp only [List.length_cons, List.length_nil] at hc5 ⊢
      clear hB hown hcell HC
      go_wp2_with fail
      refine HD.out.mono ?_
      rintro e w2 ⟨v', rfl, ho, hB2⟩
      have HE := Lib.hid (show DoneEnd T L (some (dropL L k)) w (.returned (.tuple #[v', .bool true])) w2 from ⟨v', rfl, (EnsEnd.row (T := T) ho).mono (fun q hq => hq.imp id (fun x => ⟨Nat.le_trans HB.out.size x.1, x.2⟩)), HB.out.trans (hB2.mono HB.out.size)⟩)
      clear ho hB2 HD hc0 hc1
      go_wp2_with fail
      go_ret2
      exact HE.out
    · rw [show doP L [a, k] = none from by unfold doP; rw [if_neg (fun h => by simp at h), if_neg (fun h => hp h.2)]]
      rw [decide_eq_false hp] at ka
      clear h3 h2 hp
      go_enter Try.func28, Try.ntmps28
      go_wp2_with fail
      refine HC.out.mono ?_
      rintro e w1 ⟨hB, u5, rfl, hown⟩
      obtain ⟨_, hq⟩ := parts_cells hown
      obtain ⟨g5, c5, rfl, hg0, hg5, hc5, hm5, hcell⟩ := hq (by simp)
      have hc0 := hcell 0 (by simp)
      simp only [List.getElem_cons_zero] at hc0
      have HE := Lib.hid (HSa.out w1 hB)
      simp only [List.length_cons, List.length_nil] at hc5 ⊢
      clear hB hown hcell HC
      go_wp2_with fail
      go_ret2
      exact HE.out
  rw [show doP L P = none from by unfold doP; rw [if_neg (fun h => h3 h.1), if_neg (fun h => h2 h.1)]]
  have e3 : ((P.length : Int) == 3) = false := beq_eq_false_iff_ne.2 (by omega)
  have e2 : ((P.length : Int) == 2) = false := beq_eq_false_iff_ne.2 (by omega)
  clear h3 h2
  go_enter Try.func28, Try.ntmps28
  go_wp2_with fail
  refine HC.out.mono ?_
  rintro e w1 ⟨hB, u5, rfl, hown⟩
  obtain ⟨⟨p5, c5, rfl⟩, _⟩ := parts_cells hown
  have HE := Lib.hid (HSa.out w1 hB)
  clear hB hown HC
  go_wp2_with fail
  go_ret2
  exact HE.out
end Go.Proofs.Ytbdlmdmbaajcmaa
