/- Walks: a commit's bytes, by the code and by the document; A commit's bytes, read: the theory; a commit that is built of its fields; A commit that is handed in; Walks: two commits held against each other. -/
import Derived.Test.YtdhaanaenklleaaDoorN4
namespace Go.Proofs.YtdhaanaenklleaaDoor
set_option linter.unusedVariables false
set_option linter.unusedSimpArgs false
open Go.ChangeShapes Go.WideShapes Go.ChangeAt Go.RowKit

def partsC (root : List UInt8) (L : List (List UInt8)) (note : ByteArray) : List ByteArray := [note, idB root] ++ L.map idB
def commitB (root : List UInt8) (L : List (List UInt8)) (note : ByteArray) : ByteArray := S.joinB (partsC root L note)
def goodC (L : List (List UInt8)) (note : ByteArray) : Bool := decide (note.size ≤ 64) && decide (L.length ≤ 2)
def putC (root : List UInt8) (L : List (List UInt8)) (note : ByteArray) : Value := .tuple #[.string (if goodC L note = true then commitB root L note else ⟨#[]⟩), .int .i64 (if goodC L note = true then 0 else 1)]
theorem slice_id0 (w : World) (B : Nat) : (Instr.sliceAt 37 (.pointer (some ⟨B, 0, none⟩)) none none none).run Tryd.prog w = .ok (.slice (some ⟨B, 0, none⟩) 32 32) w := by
  have he : Tryd.prog.arrayLen 37 = 32 := by kernel_rfl
  have hE : Tryd.prog.elem 37 = 5 := by kernel_rfl
  have hz : (sizeOf 5).run Tryd.prog w = .ok 1 w := by simp [go_sem]
  rw [run_sliceAt_array_all w 37 ⟨B, 0, none⟩ (by rw [he, hE]; exact Tryd.underlying37), hE, hz, he]
  simp [go_sem, Addr.add]
theorem conv_bytes {x : World} {B : Nat} {l : List UInt8} (h : ∀ j y, (bytV l)[j]? = some y → x.cell? ⟨B, j, none⟩ = some y) (hl : l.length = 32) : (convert 59 9 (.slice (some ⟨B, 0, none⟩) 32 32)).run Tryd.prog x = .ok (.string (idB l)) x := by
  have := run_convert_bytes_back (P := Tryd.prog) x 59 9 5 ⟨B, 0, none⟩ 32 l Tryd.underlying59 Tryd.underlying5 Tryd.underlying9 (fun j hj => by
    have e : (⟨B, 0, none⟩ : Addr).add j = ⟨B, j, none⟩ := by unfold Addr.add; split <;> simp_all
    rw [e]
    exact h j _ (by simp [bytV, hj]))
  rw [hl] at this
  exact this
theorem conv_root {w x : World} {B : Nat} {root : List UInt8} {pv : Value} {note : ByteArray} (h : BoxL w B (cmL root pv note) x) (hl : root.length = 32) : (convert 59 9 (.slice (some ⟨B, 0, none⟩) 32 32)).run Tryd.prog x = .ok (.string (idB root)) x :=
  conv_bytes (fun j y hj => h.r j y (by
    unfold cmL
    rw [List.getElem?_append_left (List.getElem?_eq_some_iff.1 hj).1]; exact hj)) hl
theorem own_two (w : World) (base : Nat) (s t : ByteArray) (hb : base ≤ w.heap.size) : (w.alloc (.cells #[.string s, .string t] 9)).ownsRow base 9 1 (.slice (some ⟨w.heap.size, 0, none⟩) 2 2) [s, t].length ([s, t].map Value.string) :=
  World.ownsRow_lit w #[.string s, .string t] 2 hb (by unfold maxLen; decide) rfl
theorem boxL_alloc (w : World) (row : List Value) (t : TypeId) : BoxL w w.heap.size row (w.alloc (.cells row.toArray t)) :=
  ⟨by simp, fun j y hj => (alloc_at w row t j).trans hj, (Below.refl _ w).alloc (Nat.le_refl _) _, Nat.le_refl _⟩
theorem cm_size {root : List UInt8} {pv : Value} {note : ByteArray} (h : root.length = 32) : (Tryd.prog.info? 40).map (·.size) = some (cmL root pv note).toArray.size := by
  unfold cmL; rw [List.size_toArray, List.length_append, bytV_len, h]; kernel_rfl
theorem total_partsC {root : List UInt8} {L : List (List UInt8)} {note : ByteArray} (hr : root.length = 32) (hL : ∀ x ∈ L, x.length = 32) : S.total (partsC root L note) = note.size + 32 + 32 * L.length := by
  unfold partsC
  rw [S.total_append]
  have h2 : ∀ L : List (List UInt8), (∀ x ∈ L, x.length = 32) → S.total (L.map idB) = 32 * L.length := by
    intro L
    induction L with
    | nil => intro _; rfl
    | cons x r ih =>
      intro h
      simp only [List.map_cons, S.total, idB_size, h x List.mem_cons_self, ih (fun y hy => h y (List.mem_cons_of_mem _ hy)), List.length_cons]
      omega
  rw [h2 L hL]
  simp only [S.total, idB_size, hr] <;> omega
theorem map_next {L : List (List UInt8)} {k : Nat} (h : k < L.length) : (L.take (k + 1)).map idB = (L.take k).map idB ++ [idB L[k]] := by
  rw [List.take_succ_eq_append_getElem h, List.map_append]; rfl
/-- A parent, in memory. -/
theorem par_at {w : World} {pp : Option Addr} {pc ln : Nat} {L : List (List UInt8)} (hln : ln = L.length) (h : LAt 32 bytV w (.slice pp ln pc) L) : (∀ x ∈ L, x.length = 32) ∧ (0 < ln → ∃ g o, pp = some ⟨g, o, none⟩ ∧ g < w.heap.size ∧ ln ≤ pc ∧ pc ≤ 9223372036854775807 ∧ ∀ k, ∀ hk : k < L.length, w.rangeAt g (o + k * 32) (bytV L[k])) := by
  subst hln
  obtain ⟨hl, h⟩ := h
  have hl' : ∀ x ∈ L, x.length = 32 := fun x hx => by have := hl x hx; rwa [bytV_len] at this
  refine ⟨hl', fun h0 => ?_⟩
  rcases h with ⟨p, cap, e, e2⟩ | ⟨b, off, cap, e, hb, hcap, hmax, hcell⟩
  · subst e2; simp at h0
  · simp only [Value.slice.injEq] at e
    obtain ⟨rfl, -, rfl⟩ := e
    refine ⟨b, off, rfl, hb, hcap, by unfold maxLen at hmax; omega, fun k hk j y hy => ?_⟩
    have hj := (List.getElem?_eq_some_iff.1 hy).1
    rw [bytV_len, hl' _ (List.getElem_mem hk)] at hj
    have := hcell (k * 32 + j) y (by rw [LF_at L hl k L[k] (List.getElem?_eq_getElem hk) j hj]; exact hy)
    rw [← Nat.add_assoc] at this
    exact this
set_option maxRecDepth 100000 in
set_option maxHeartbeats 8000000 in
theorem putCommit_any (root : List UInt8) (L : List (List UInt8)) (note : ByteArray) (pp : Option Addr) (ln pc : Nat) (w : World) (hr : root.length = 32) (hln : ln = L.length) (hv : LAt 32 bytV w (.slice pp ln pc) L) (hn : note.size ≤ 1048576) (hl : ln ≤ 1048576) :
    Calls Tryd.prog 23 #[cmV root (.slice pp ln pc) note] w fun e w' => e = .returned (putC root L note) ∧ Below w.heap.size w w' := by
  obtain ⟨hL32, hpar⟩ := par_at hln hv
  have H32 := Lib.hid hr
  have HL32 := Lib.hid hL32
  have Hpar := Lib.hid hpar
  have Hln := Lib.hid hln
  have Htot := Lib.hid (show S.total (partsC root L note) ≤ 1099511627776 by rw [total_partsC hr hL32]; omega)
  have Hpl := Lib.hid (show (partsC root L note).length ≤ 1099511627776 by unfold partsC; simp only [List.length_append, List.length_map, List.length_cons, List.length_nil]; omega)
  clear hL32 hpar hv
  have HC := fun w1 => goodCommit_any root note pp ln pc w1 hr
  obtain ⟨R, hR⟩ : ∃ R, R = (cmL root (.slice pp ln pc) note).toArray := ⟨_, rfl⟩
  have HBx0 := Lib.hid (show BoxL w w.heap.size (cmL root (.slice pp ln pc) note) (w.alloc (.cells R 40)) by rw [hR]; exact boxL_alloc w _ 40)
  have Hcs := Lib.hid (show (Tryd.prog.info? 40).map (·.size) = some R.size by rw [hR]; exact cm_size H32.out)
  unfold cmV at HC ⊢
  rw [← hR]
  rw [← hR] at HC
  replace HC := Lib.hid HC
  clear hR
  cases hg : goodC L note with
  | false =>
    have Hfin := Lib.hid (show putC root L note = .tuple #[.string ⟨#[]⟩, .int .i64 1] by unfold putC; rw [hg]; rfl)
    have hgv : (decide (note.size ≤ 64) && decide (ln ≤ 2)) = false := by rw [hln]; exact hg
    rw [hgv] at HC
    clear hgv hg hln
    go_enter Tryd.func23, Tryd.ntmps23
    go_wp2_with (first | (refine wpList_load_row rfl 40 _ rfl w.heap.size rfl 40 R (0, 0) _ (heap_alloc_new w _) Tryd.underlying40 rfl Hcs.out ?_))
    refine (HC.out _).mono ?_
    rintro e w1 ⟨rfl, hB1⟩
    have HB1 := Lib.hid (((Below.refl _ w).alloc (Nat.le_refl _) _).trans (hB1.mono (by simp)))
    clear hB1
    go_wp2_with fail
    go_ret2
    exact ⟨by rw [Hfin.out]; rfl, HB1.out⟩
  | true =>
    have Hfin := Lib.hid (show putC root L note = .tuple #[.string (S.joinB (partsC root L note)), .int .i64 0] by unfold putC; rw [hg]; rfl)
    have hgv : (decide (note.size ≤ 64) && decide (ln ≤ 2)) = true := by rw [hln]; exact hg
    rw [hgv] at HC
    clear hgv hg hln
    go_enter Tryd.func23, Tryd.ntmps23
    go_wp2_with (first | (refine wpList_load_row rfl 40 _ rfl w.heap.size rfl 40 R (0, 0) _ (heap_alloc_new w _) Tryd.underlying40 rfl Hcs.out ?_))
    refine (HC.out _).mono ?_
    rintro e w2 ⟨rfl, hB1⟩
    have HBx := Lib.hid (HBx0.out.below hB1)
    have HB2 := Lib.hid HBx.out.b
    clear hB1
    go_wp2_with fail
    have hd2 : Below w2.heap.size w2 w2.drew := (Below.refl _ _).drew
    have hbd := HBx.out.below hd2
    have hRL : ∃ Rs : List (Value → World → Prop), Rs = [K2.PureV (.pointer (some ⟨w.heap.size, 33, none⟩)),
        K2.PureV (.string note),
        K2.PureV (.pointer (some ⟨w.heap.size, 0, none⟩)),
        K2.PureV (.slice (some ⟨w.heap.size, 0, none⟩) 32 32),
        K2.PureV (.string (idB root)),
        RowT w.heap.size [note, idB root],
        RowT w.heap.size [note, idB root]] := ⟨_, rfl⟩
    obtain ⟨Rs, hRs⟩ := hRL
    refine K2.wp_region_rel2 w2.heap.size (Nat.le_refl _) (K2.RL Rs) [2, 2, 2, 2, 2, 1, 1] [1, 1, 1, 1, 1, 1, 1] [] (by kernel_rfl) (by kernel_rfl) (K2.RL.st1 (by rw [hRs]; exact K2.st1_cons (K2.PureV.st1 _) (K2.st1_cons (K2.PureV.st1 _) (K2.st1_cons (K2.PureV.st1 _) (K2.st1_cons (K2.PureV.st1 _) (K2.st1_cons (K2.PureV.st1 _) (K2.st1_cons (RowT.st1 _ _) (K2.st1_cons (RowT.st1 _ _) (K2.st1_nil))))))))) (K2.RL.st2 (by rw [hRs]; exact K2.st2_cons (K2.PureV.st2 _ _ _) (K2.st2_cons (K2.PureV.st2 _ _ _) (K2.st2_cons (K2.PureV.st2 _ _ _) (K2.st2_cons (K2.PureV.st2 _ _ _) (K2.st2_cons (K2.PureV.st2 _ _ _) (K2.st2_skip (K2.st2_skip (K2.st2_nil))))))))) ?_ ?_ ?_
    · intro i o d hi hd
      have hmem := List.mem_of_getElem? hi
      simp only [List.mem_cons, List.not_mem_nil, or_false] at hmem
      rcases hmem with rfl | rfl | rfl | rfl | rfl | rfl | rfl <;> simp at hd <;> (subst hd; simp)
    · refine K2.rel_start (Φ := K2.Hop _ _ _ _ _ _ _) ?_
      refine K2.rel_cons (Φ := K2.Hop _ _ _ _ _ _ _) (k := 0) ?_ ?_
      · intro fa fw hfB hfN hfE hfk hft
        have k1 : fa.eval (.tmp 1) = .pointer (some ⟨w.heap.size, 0, none⟩) := hft 1 (K2.mem_looks (by kernel_rfl)) (K2.noneed (by kernel_rfl))
        rw [hRs]
        refine K2.hop_plain rfl ?_
        generalize fa.eval = ρ at *
        exact K2.out_run (v := .pointer (some ⟨w.heap.size, 33, none⟩)) (w' := fw) (by simp [execOp, k1, go_sem]) ⟨rfl, Below.refl _ _⟩
      refine K2.rel_cons (Φ := K2.Hop _ _ _ _ _ _ _) (k := 1) ?_ ?_
      · intro fa fw hfB hfN hfE hfk hft
        have hE : Below w2.drew.heap.size w2.drew fw := hfE (by kernel_rfl)
        have k10 : fa.eval (.tmp 10) = (.pointer (some ⟨w.heap.size, 33, none⟩)) := by have := hfk 0 (K2.mem_needs (by kernel_rfl)) _ rfl; rw [hRs] at this; exact this
        rw [hRs]
        refine K2.hop_plain rfl ?_
        have h := (hbd.below hE).r 33 (.string note) (cm_note H32.out)
        exact out_load rfl k10 (by simp [go_sem, h]) ⟨rfl, Below.refl _ _⟩
      refine K2.rel_cons (Φ := K2.Hop _ _ _ _ _ _ _) (k := 2) ?_ ?_
      · intro fa fw hfB hfN hfE hfk hft
        have k1 : fa.eval (.tmp 1) = .pointer (some ⟨w.heap.size, 0, none⟩) := hft 1 (K2.mem_looks (by kernel_rfl)) (K2.noneed (by kernel_rfl))
        rw [hRs]
        refine K2.hop_plain rfl ?_
        generalize fa.eval = ρ at *
        exact K2.out_run (v := .pointer (some ⟨w.heap.size, 0, none⟩)) (w' := fw) (by simp [execOp, k1, go_sem]) ⟨rfl, Below.refl _ _⟩
      refine K2.rel_cons (Φ := K2.Hop _ _ _ _ _ _ _) (k := 3) ?_ ?_
      · intro fa fw hfB hfN hfE hfk hft
        have k12 : fa.eval (.tmp 12) = (.pointer (some ⟨w.heap.size, 0, none⟩)) := by have := hfk 2 (K2.mem_needs (by kernel_rfl)) _ rfl; rw [hRs] at this; exact this
        rw [hRs]
        refine K2.hop_plain rfl ?_
        generalize fa.eval = ρ at *
        exact K2.out_run (v := .slice (some ⟨w.heap.size, 0, none⟩) 32 32) (w' := fw) (by simp [execOp, k12, slice_id0, go_sem]) ⟨rfl, Below.refl _ _⟩
      refine K2.rel_cons (Φ := K2.Hop _ _ _ _ _ _ _) (k := 4) ?_ ?_
      · intro fa fw hfB hfN hfE hfk hft
        have hE : Below w2.drew.heap.size w2.drew fw := hfE (by kernel_rfl)
        have k13 : fa.eval (.tmp 13) = (.slice (some ⟨w.heap.size, 0, none⟩) 32 32) := by have := hfk 3 (K2.mem_needs (by kernel_rfl)) _ rfl; rw [hRs] at this; exact this
        rw [hRs]
        refine K2.hop_plain rfl ?_
        have h := conv_root (hbd.below hE) H32.out
        generalize fa.eval = ρ at *
        exact K2.out_run (v := .string (idB root)) (w' := fw) (by unfold execOp; simp only [Sem.run_bind, k13, h, Result.andThen_ok, Sem.run_pure]) ⟨rfl, Below.refl _ _⟩
      refine K2.rel_cons (Φ := K2.Hop _ _ _ _ _ _ _) (k := 5) ?_ ?_
      · intro fa fw hfB hfN hfE hfk hft
        have k11 : fa.eval (.tmp 11) = (.string note) := by have := hfk 1 (K2.mem_needs (by kernel_rfl)) _ rfl; rw [hRs] at this; exact this
        have k14 : fa.eval (.tmp 14) = (.string (idB root)) := by have := hfk 4 (K2.mem_needs (by kernel_rfl)) _ rfl; rw [hRs] at this; exact this
        rw [hRs]
        refine K2.hop_plain rfl ?_
        have kc : ∀ v, fa.eval (.const v) = v := fun _ => rfl
        generalize fa.eval = ρ at *
        exact K2.out_run (v := .slice (some ⟨fw.heap.size, 0, none⟩) 2 2) (w' := fw.alloc (.cells #[.string note, .string (idB root)] 9)) (by simp [execOp, kc, k11, k14, go_sem]) ⟨⟨own_two fw w.heap.size note (idB root) (Nat.le_trans HB2.out.size hfN)⟩, (Below.refl _ _).alloc (Nat.le_refl _) _⟩
      refine K2.rel_cons (Φ := K2.Hop _ _ _ _ _ _ _) (k := 6) ?_ ?_
      · intro fa fw hfB hfN hfE hfk hft
        have k15 : (RowT w.heap.size [note, idB root]) (fa.eval (.tmp 15)) fw := by have := hfk 5 (K2.mem_needs (by kernel_rfl)) _ rfl; rw [hRs] at this; exact this
        rw [hRs]
        refine K2.hop_plain rfl ?_
        refine K2.out_assign rfl ?_
        exact ⟨k15, Below.refl _ _⟩
      exact K2.rel_nil
    · intro fa fw hfB hfy hff hfs hfd
      rw [hRs] at hfy
      have k4 : (RowT w.heap.size [note, idB root]) (fa.eval (.tmp 4)) fw := hfy 6 _ rfl (K2.unkilled (by decide))
      replace k4 : RowT w.heap.size [note, idB root] (fa.tmps.getD 4 undef) fw := k4
      have HBf := Lib.hid (show Below w2.heap.size w2 fw from (Below.refl _ _).drew.trans hfB)
      have e := K2.rel_frame [10, 11, 12, 13, 14, 15, 4] (by kernel_rfl) hff hfs hfd
      simp only [List.foldl] at e
      clear hfy hff hfs hfd 
      generalize fa.tmps.getD 10 undef = x10 at e
      generalize fa.tmps.getD 11 undef = x11 at e
      generalize fa.tmps.getD 12 undef = x12 at e
      generalize fa.tmps.getD 13 undef = x13 at e
      generalize fa.tmps.getD 14 undef = x14 at e
      generalize fa.tmps.getD 15 undef = x15 at e
      generalize fa.tmps.getD 4 undef = x4 at e k4
      simp [List.setIfInBounds_toArray, List.set_cons_succ, List.set_cons_zero] at e
      subst e
      have HL0 := Lib.hid (show LoS w [note, idB root] x4 fw from ⟨k4.own, HB2.out.trans (HBf.out.mono HB2.out.size)⟩)
      have HBxf := Lib.hid (HBx.out.below HBf.out)
      have kpv := HBxf.out.r 32 (.slice pp ln pc) (cm_pv H32.out)
      clear k4
      go_wp2_with fail
      go_loopg [4, 19] ln (fun g vo iv wr => ∃ k : Nat, k + g = ln ∧ iv = .int .i64 k ∧ LoS w ([note, idB root] ++ (L.take k).map idB) vo wr)
      case atStart => exact ⟨0, by omega, rfl, HL0.out⟩
      case round =>
        obtain ⟨k, hkg, rfl, hLo⟩ := hrel
        have HLo := Lib.hid hLo
        clear hLo HL0
        by_cases hlt : k < ln
        · have hltI : (k : Int) < (ln : Int) := by omega
          have hka : k < L.length := by have := Hln.out; omega
          obtain ⟨g1, o1, rfl, hg1, hcap1, hmax1, hr1⟩ := Hpar.out (by omega)
          have hnx := map_next hka
          have Hd32 := Lib.hid (HL32.out _ (List.getElem_mem hka))
          have Hrg := Lib.hid (range_below hg1 (hr1 k hka) HLo.out.bl)
          have hll : ([note, idB root] ++ (L.take k).map idB).length ≤ 1048580 := by simp only [List.length_append, List.length_cons, List.length_nil, List.length_map, List.length_take]; omega
          generalize hd : L[k] = d at *
          have Hnx := Lib.hid (show [note, idB root] ++ (L.take (k + 1)).map idB = ([note, idB root] ++ (L.take k).map idB) ++ [idB d] by rw [hnx, List.append_assoc])
          have Hs32 := Lib.hid (show (bytV d).toArray.size = 32 by rw [List.size_toArray, bytV_len, Hd32.out])
          clear hnx hd hr1
          generalize [note, idB root] ++ (L.take k).map idB = ss at *
          go_wp2_with (first | (refine wpList_load_mid rfl 37 (.tmp 21) rfl g1 (o1 + k * 32) rfl (bytV d) _ Hrg.out Tryd.underlying37 rfl (by rw [bytV_len, Hd32.out]; kernel_rfl) ?_) | (refine wpList_store_rowTo rfl 37 (.tmp 6) (.tmp 22) rfl rfl wr.heap.size (bytV d).toArray rfl rfl 37 _ (heap_alloc_new wr _) (id_size Hd32.out) (by rw [Hs32.out]; rfl) (id_one _) ?_; refine box_absL (boxL_made wr _ 37 (bytV d)) ?_; intro w2 hbx; have HBx2 := Lib.hid hbx; have HLo2 := Lib.hid (HLo.out.below hbx.b); have hcv := conv_bytes hbx.r Hd32.out; clear hbx) | (at_builtin; go_must (refine wpList_append_strs' rfl (.tmp 23) (.tmp 26) rfl rfl w.heap.size _ ss rfl (S_own_below HLo2.out.ow ((Below.refl _ _).alloc (Nat.le_refl _) _)) _ [idB d] (strs_lit w2 (idB d)) rfl (by simp only [List.length_cons, List.length_nil]; omega) (by have := HLo2.out.bl.size; simp; omega) ?_); intro v3 w3 ho3 hg3; have HLo3 := Lib.hid ((HLo2.out.below ((Below.refl _ _).alloc (Nat.le_refl _) _)).put ho3 hg3); clear ho3 hg3))
          go_roundg (gk - 1)
          case measure => omega
          case rel => exact ⟨k + 1, by omega, by go_num, by rw [Hnx.out]; exact HLo3.out⟩
        · have hnI : ¬ (k : Int) < (ln : Int) := by omega
          have HL1 := Lib.hid (show LoS w (partsC root L note) u4 wr by have := HLo.out; rwa [List.take_of_length_le (by have := Hln.out; omega)] at this)
          clear HLo
          go_wp2_with fail
          refine (S.join_any _ (partsC root L note) wr (Strs.ofRow HL1.out.ow) Htot.out Hpl.out).mono ?_
          rintro e w5 ⟨rfl, hB5⟩
          have HB5 := Lib.hid (HL1.out.bl.trans (hB5.mono HL1.out.bl.size))
          clear hB5
          go_wp2_with fail
          go_ret2
          exact ⟨by rw [Hfin.out]; rfl, HB5.out⟩
set_option maxRecDepth 100000 in
set_option maxHeartbeats 8000000 in
theorem refCommit_any (root : List UInt8) (L : List (List UInt8)) (note : ByteArray) (pp : Option Addr) (ln pc : Nat) (w : World) (hr : root.length = 32) (hln : ln = L.length) (hv : LAt 32 bytV w (.slice pp ln pc) L) (hn : note.size ≤ 1048576) (hl : ln ≤ 1048576) :
    Calls Tryd.prog 26 #[cmV root (.slice pp ln pc) note] w fun e w' => e = .returned (.string (commitB root L note)) ∧ Below w.heap.size w w' := by
  obtain ⟨hL32, hpar⟩ := par_at hln hv
  have H32 := Lib.hid hr
  have HL32 := Lib.hid hL32
  have Hpar := Lib.hid hpar
  have Hln := Lib.hid hln
  have Htot := Lib.hid (show S.total (partsC root L note) ≤ 1099511627776 by rw [total_partsC hr hL32]; omega)
  have Hpl := Lib.hid (show (partsC root L note).length ≤ 1099511627776 by unfold partsC; simp only [List.length_append, List.length_map, List.length_cons, List.length_nil]; omega)
  clear hL32 hpar hv
  obtain ⟨R, hR⟩ : ∃ R, R = (cmL root (.slice pp ln pc) note).toArray := ⟨_, rfl⟩
  have HBx0 := Lib.hid (show BoxL w w.heap.size (cmL root (.slice pp ln pc) note) (w.alloc (.cells R 40)) by rw [hR]; exact boxL_alloc w _ 40)
  have Hcs := Lib.hid (show (Tryd.prog.info? 40).map (·.size) = some R.size by rw [hR]; exact cm_size H32.out)
  unfold cmV
  rw [← hR]
  have HBx := HBx0
  clear hln hR
  go_enter Tryd.func26, Tryd.ntmps26
  go_wp2_with fail
  obtain ⟨w2, hw2⟩ : ∃ w2, w2 = w.alloc (.cells R 40) := ⟨_, rfl⟩
  rw [← hw2] at HBx ⊢
  have HB2 := Lib.hid HBx.out.b
  clear hw2
  have hd2 : Below w2.heap.size w2 w2.drew := (Below.refl _ _).drew
  have hbd := HBx.out.below hd2
  have hRL : ∃ Rs : List (Value → World → Prop), Rs = [K2.PureV (.pointer (some ⟨w.heap.size, 33, none⟩)),
      K2.PureV (.string note),
      K2.PureV (.pointer (some ⟨w.heap.size, 0, none⟩)),
      K2.PureV (.slice (some ⟨w.heap.size, 0, none⟩) 32 32),
      K2.PureV (.string (idB root)),
      RowT w.heap.size [note, idB root],
      RowT w.heap.size [note, idB root]] := ⟨_, rfl⟩
  obtain ⟨Rs, hRs⟩ := hRL
  refine K2.wp_region_rel2 w2.heap.size (Nat.le_refl _) (K2.RL Rs) [2, 2, 2, 2, 2, 1, 1] [1, 1, 1, 1, 1, 1, 1] [] (by kernel_rfl) (by kernel_rfl) (K2.RL.st1 (by rw [hRs]; exact K2.st1_cons (K2.PureV.st1 _) (K2.st1_cons (K2.PureV.st1 _) (K2.st1_cons (K2.PureV.st1 _) (K2.st1_cons (K2.PureV.st1 _) (K2.st1_cons (K2.PureV.st1 _) (K2.st1_cons (RowT.st1 _ _) (K2.st1_cons (RowT.st1 _ _) (K2.st1_nil))))))))) (K2.RL.st2 (by rw [hRs]; exact K2.st2_cons (K2.PureV.st2 _ _ _) (K2.st2_cons (K2.PureV.st2 _ _ _) (K2.st2_cons (K2.PureV.st2 _ _ _) (K2.st2_cons (K2.PureV.st2 _ _ _) (K2.st2_cons (K2.PureV.st2 _ _ _) (K2.st2_skip (K2.st2_skip (K2.st2_nil))))))))) ?_ ?_ ?_
  · intro i o d hi hd
    have hmem := List.mem_of_getElem? hi
    simp only [List.mem_cons, List.not_mem_nil, or_false] at hmem
    rcases hmem with rfl | rfl | rfl | rfl | rfl | rfl | rfl <;> simp at hd <;> (subst hd; simp)
  · refine K2.rel_start (Φ := K2.Hop _ _ _ _ _ _ _) ?_
    refine K2.rel_cons (Φ := K2.Hop _ _ _ _ _ _ _) (k := 0) ?_ ?_
    · intro fa fw hfB hfN hfE hfk hft
      have k1 : fa.eval (.tmp 1) = .pointer (some ⟨w.heap.size, 0, none⟩) := hft 1 (K2.mem_looks (by kernel_rfl)) (K2.noneed (by kernel_rfl))
      rw [hRs]
      refine K2.hop_plain rfl ?_
      generalize fa.eval = ρ at *
      exact K2.out_run (v := .pointer (some ⟨w.heap.size, 33, none⟩)) (w' := fw) (by simp [execOp, k1, go_sem]) ⟨rfl, Below.refl _ _⟩
    refine K2.rel_cons (Φ := K2.Hop _ _ _ _ _ _ _) (k := 1) ?_ ?_
    · intro fa fw hfB hfN hfE hfk hft
      have hE : Below w2.drew.heap.size w2.drew fw := hfE (by kernel_rfl)
      have k6 : fa.eval (.tmp 6) = (.pointer (some ⟨w.heap.size, 33, none⟩)) := by have := hfk 0 (K2.mem_needs (by kernel_rfl)) _ rfl; rw [hRs] at this; exact this
      rw [hRs]
      refine K2.hop_plain rfl ?_
      have h := (hbd.below hE).r 33 (.string note) (cm_note H32.out)
      exact out_load rfl k6 (by simp [go_sem, h]) ⟨rfl, Below.refl _ _⟩
    refine K2.rel_cons (Φ := K2.Hop _ _ _ _ _ _ _) (k := 2) ?_ ?_
    · intro fa fw hfB hfN hfE hfk hft
      have k1 : fa.eval (.tmp 1) = .pointer (some ⟨w.heap.size, 0, none⟩) := hft 1 (K2.mem_looks (by kernel_rfl)) (K2.noneed (by kernel_rfl))
      rw [hRs]
      refine K2.hop_plain rfl ?_
      generalize fa.eval = ρ at *
      exact K2.out_run (v := .pointer (some ⟨w.heap.size, 0, none⟩)) (w' := fw) (by simp [execOp, k1, go_sem]) ⟨rfl, Below.refl _ _⟩
    refine K2.rel_cons (Φ := K2.Hop _ _ _ _ _ _ _) (k := 3) ?_ ?_
    · intro fa fw hfB hfN hfE hfk hft
      have k8 : fa.eval (.tmp 8) = (.pointer (some ⟨w.heap.size, 0, none⟩)) := by have := hfk 2 (K2.mem_needs (by kernel_rfl)) _ rfl; rw [hRs] at this; exact this
      rw [hRs]
      refine K2.hop_plain rfl ?_
      generalize fa.eval = ρ at *
      exact K2.out_run (v := .slice (some ⟨w.heap.size, 0, none⟩) 32 32) (w' := fw) (by simp [execOp, k8, slice_id0, go_sem]) ⟨rfl, Below.refl _ _⟩
    refine K2.rel_cons (Φ := K2.Hop _ _ _ _ _ _ _) (k := 4) ?_ ?_
    · intro fa fw hfB hfN hfE hfk hft
      have hE : Below w2.drew.heap.size w2.drew fw := hfE (by kernel_rfl)
      have k9 : fa.eval (.tmp 9) = (.slice (some ⟨w.heap.size, 0, none⟩) 32 32) := by have := hfk 3 (K2.mem_needs (by kernel_rfl)) _ rfl; rw [hRs] at this; exact this
      rw [hRs]
      refine K2.hop_plain rfl ?_
      have h := conv_root (hbd.below hE) H32.out
      generalize fa.eval = ρ at *
      exact K2.out_run (v := .string (idB root)) (w' := fw) (by unfold execOp; simp only [Sem.run_bind, k9, h, Result.andThen_ok, Sem.run_pure]) ⟨rfl, Below.refl _ _⟩
    refine K2.rel_cons (Φ := K2.Hop _ _ _ _ _ _ _) (k := 5) ?_ ?_
    · intro fa fw hfB hfN hfE hfk hft
      have k7 : fa.eval (.tmp 7) = (.string note) := by have := hfk 1 (K2.mem_needs (by kernel_rfl)) _ rfl; rw [hRs] at this; exact this
      have k10 : fa.eval (.tmp 10) = (.string (idB root)) := by have := hfk 4 (K2.mem_needs (by kernel_rfl)) _ rfl; rw [hRs] at this; exact this
      rw [hRs]
      refine K2.hop_plain rfl ?_
      have kc : ∀ v, fa.eval (.const v) = v := fun _ => rfl
      generalize fa.eval = ρ at *
      exact K2.out_run (v := .slice (some ⟨fw.heap.size, 0, none⟩) 2 2) (w' := fw.alloc (.cells #[.string note, .string (idB root)] 9)) (by simp [execOp, kc, k7, k10, go_sem]) ⟨⟨own_two fw w.heap.size note (idB root) (Nat.le_trans HB2.out.size hfN)⟩, (Below.refl _ _).alloc (Nat.le_refl _) _⟩
    refine K2.rel_cons (Φ := K2.Hop _ _ _ _ _ _ _) (k := 6) ?_ ?_
    · intro fa fw hfB hfN hfE hfk hft
      have k11 : (RowT w.heap.size [note, idB root]) (fa.eval (.tmp 11)) fw := by have := hfk 5 (K2.mem_needs (by kernel_rfl)) _ rfl; rw [hRs] at this; exact this
      rw [hRs]
      refine K2.hop_plain rfl ?_
      refine K2.out_assign rfl ?_
      exact ⟨k11, Below.refl _ _⟩
    exact K2.rel_nil
  · intro fa fw hfB hfy hff hfs hfd
    rw [hRs] at hfy
    have k3 : (RowT w.heap.size [note, idB root]) (fa.eval (.tmp 3)) fw := hfy 6 _ rfl (K2.unkilled (by decide))
    replace k3 : RowT w.heap.size [note, idB root] (fa.tmps.getD 3 undef) fw := k3
    have HBf := Lib.hid (show Below w2.heap.size w2 fw from (Below.refl _ _).drew.trans hfB)
    have e := K2.rel_frame [6, 7, 8, 9, 10, 11, 3] (by kernel_rfl) hff hfs hfd
    simp only [List.foldl] at e
    clear hfy hff hfs hfd 
    generalize fa.tmps.getD 6 undef = x6 at e
    generalize fa.tmps.getD 7 undef = x7 at e
    generalize fa.tmps.getD 8 undef = x8 at e
    generalize fa.tmps.getD 9 undef = x9 at e
    generalize fa.tmps.getD 10 undef = x10 at e
    generalize fa.tmps.getD 11 undef = x11 at e
    generalize fa.tmps.getD 3 undef = x3 at e k3
    simp [List.setIfInBounds_toArray, List.set_cons_succ, List.set_cons_zero] at e
    subst e
    have HL0 := Lib.hid (show LoS w [note, idB root] x3 fw from ⟨k3.own, HB2.out.trans (HBf.out.mono HB2.out.size)⟩)
    have HBxf := Lib.hid (HBx.out.below HBf.out)
    have kpv := HBxf.out.r 32 (.slice pp ln pc) (cm_pv H32.out)
    clear k3
    go_wp2_with fail
    go_loopg [3, 15] ln (fun g vo iv wr => ∃ k : Nat, k + g = ln ∧ iv = .int .i64 k ∧ LoS w ([note, idB root] ++ (L.take k).map idB) vo wr)
    case atStart => exact ⟨0, by omega, rfl, HL0.out⟩
    case round =>
      obtain ⟨k, hkg, rfl, hLo⟩ := hrel
      have HLo := Lib.hid hLo
      clear hLo HL0
      by_cases hlt : k < ln
      · have hltI : (k : Int) < (ln : Int) := by omega
        have hka : k < L.length := by have := Hln.out; omega
        obtain ⟨g1, o1, rfl, hg1, hcap1, hmax1, hr1⟩ := Hpar.out (by omega)
        have hnx := map_next hka
        have Hd32 := Lib.hid (HL32.out _ (List.getElem_mem hka))
        have Hrg := Lib.hid (range_below hg1 (hr1 k hka) HLo.out.bl)
        have hll : ([note, idB root] ++ (L.take k).map idB).length ≤ 1048580 := by simp only [List.length_append, List.length_cons, List.length_nil, List.length_map, List.length_take]; omega
        generalize hd : L[k] = d at *
        have Hnx := Lib.hid (show [note, idB root] ++ (L.take (k + 1)).map idB = ([note, idB root] ++ (L.take k).map idB) ++ [idB d] by rw [hnx, List.append_assoc])
        have Hs32 := Lib.hid (show (bytV d).toArray.size = 32 by rw [List.size_toArray, bytV_len, Hd32.out])
        clear hnx hd hr1
        generalize [note, idB root] ++ (L.take k).map idB = ss at *
        go_wp2_with (first | (refine wpList_load_mid rfl 37 (.tmp 17) rfl g1 (o1 + k * 32) rfl (bytV d) _ Hrg.out Tryd.underlying37 rfl (by rw [bytV_len, Hd32.out]; kernel_rfl) ?_) | (refine wpList_store_rowTo rfl 37 (.tmp 5) (.tmp 18) rfl rfl wr.heap.size (bytV d).toArray rfl rfl 37 _ (heap_alloc_new wr _) (id_size Hd32.out) (by rw [Hs32.out]; rfl) (id_one _) ?_; refine box_absL (boxL_made wr _ 37 (bytV d)) ?_; intro w2 hbx; have HBx2 := Lib.hid hbx; have HLo2 := Lib.hid (HLo.out.below hbx.b); have hcv := conv_bytes hbx.r Hd32.out; clear hbx) | (at_builtin; go_must (refine wpList_append_strs' rfl (.tmp 19) (.tmp 22) rfl rfl w.heap.size _ ss rfl (S_own_below HLo2.out.ow ((Below.refl _ _).alloc (Nat.le_refl _) _)) _ [idB d] (strs_lit w2 (idB d)) rfl (by simp only [List.length_cons, List.length_nil]; omega) (by have := HLo2.out.bl.size; simp; omega) ?_); intro v3 w3 ho3 hg3; have HLo3 := Lib.hid ((HLo2.out.below ((Below.refl _ _).alloc (Nat.le_refl _) _)).put ho3 hg3); clear ho3 hg3))
        go_roundg (gk - 1)
        case measure => omega
        case rel => exact ⟨k + 1, by omega, by go_num, by rw [Hnx.out]; exact HLo3.out⟩
      · have hnI : ¬ (k : Int) < (ln : Int) := by omega
        have HL1 := Lib.hid (show LoS w (partsC root L note) u3 wr by have := HLo.out; rwa [List.take_of_length_le (by have := Hln.out; omega)] at this)
        clear HLo
        go_wp2_with fail
        refine (S.refJoin_any _ (partsC root L note) wr (Strs.ofRow HL1.out.ow) Htot.out Hpl.out).mono ?_
        rintro e w5 ⟨rfl, hB5⟩
        have HB5 := Lib.hid (HL1.out.bl.trans (hB5.mono HL1.out.bl.size))
        clear hB5
        go_wp2_with fail
        go_ret
        exact ⟨rfl, HB5.out⟩

end Go.Proofs.YtdhaanaenklleaaDoor
namespace Go.Proofs.YtdhaanaenklleaaDoor
set_option linter.unusedVariables false
set_option linter.unusedSimpArgs false
open Go.ChangeShapes Go.WideShapes Go.ChangeAt Go.RowKit

abbrev Cm := List UInt8 × List (List UInt8) × ByteArray
def id32 (l : List ByteArray) : Bool := l.all fun x => decide (x.size = 32)
def dataL (l : List ByteArray) : List (List UInt8) := l.map fun x => x.data.toList
def getCP : List ByteArray → Option Cm
  | note :: root :: rest => if (id32 (root :: rest) && goodC (dataL rest) note) = true then some (root.data.toList, dataL rest, note) else none
  | _ => none
def getC (s : ByteArray) : Option Cm := match S.splitB s with | none => none | some ps => getCP ps
def zeroC : Cm := (zeroId, [], ⟨#[]⟩)
theorem getC_of {s : ByteArray} {ps : List ByteArray} (h : S.splitB s = some ps) : getC s = getCP ps := by unfold getC; rw [h]
theorem id_back {x : ByteArray} : idB x.data.toList = x := by unfold idB; simp
theorem id32_cons {x : ByteArray} {l : List ByteArray} : id32 (x :: l) = (decide (x.size = 32) && id32 l) := rfl
theorem id32_mem {l : List ByteArray} (h : id32 l = true) : ∀ x ∈ l, x.size = 32 := fun x hx => by
  unfold id32 at h
  rw [List.all_eq_true] at h
  exact of_decide_eq_true (h x hx)
theorem id32_len {l : List ByteArray} (h : id32 l = true) : ∀ y ∈ dataL l, y.length = 32 := fun y hy => by
  obtain ⟨x, hx, rfl⟩ := List.mem_map.1 hy
  rw [← Lib.size_eq]; exact id32_mem h x hx
theorem data_idB (l : List (List UInt8)) : dataL (l.map idB) = l := by
  unfold dataL
  rw [List.map_map]
  conv => rhs; rw [← List.map_id l]
  exact List.map_congr_left fun x _ => rfl
theorem id32_idB {l : List (List UInt8)} (h : ∀ x ∈ l, x.length = 32) : id32 (l.map idB) = true := by
  unfold id32
  rw [List.all_eq_true]
  intro x hx
  obtain ⟨y, hy, rfl⟩ := List.mem_map.1 hx
  rw [decide_eq_true_iff, idB_size]; exact h y hy
theorem idB_data (l : List ByteArray) : (dataL l).map idB = l := by
  unfold dataL
  rw [List.map_map]
  conv => rhs; rw [← List.map_id l]
  exact List.map_congr_left fun x _ => id_back
theorem getC_some {s : ByteArray} {c : Cm} (h : getC s = some c) : goodC c.2.1 c.2.2 = true ∧ commitB c.1 c.2.1 c.2.2 = s ∧ c.1.length = 32 ∧ (∀ x ∈ c.2.1, x.length = 32) := by
  unfold getC at h
  cases hs : S.splitB s with
  | none => rw [hs] at h; cases h
  | some ps =>
    rw [hs] at h
    have hj := S.join_split s ps hs
    match ps, h, hj with
    | [], h, _ => cases h
    | [x], h, _ => cases h
    | note :: root :: rest, h, hj =>
      simp only [getCP] at h
      split at h
      next hc =>
        rw [Bool.and_eq_true] at hc
        cases h
        have h32 := id32_len hc.1
        refine ⟨hc.2, ?_, h32 _ (List.mem_cons_self), fun x hx => h32 x (List.mem_cons_of_mem _ hx)⟩
        unfold commitB partsC
        simp only [idB_data, id_back]
        exact hj
      next => cases h
theorem getC_put {root : List UInt8} {L : List (List UInt8)} {note : ByteArray} (hg : goodC L note = true) (hr : root.length = 32) (hL : ∀ x ∈ L, x.length = 32) : getC (commitB root L note) = some (root, L, note) := by
  have hg' := hg
  unfold goodC at hg'
  simp only [Bool.and_eq_true, decide_eq_true_eq] at hg'
  unfold getC commitB
  rw [S.split_join (partsC root L note) (by unfold partsC; simp only [List.length_append, List.length_map, List.length_cons, List.length_nil]; omega) (by
    intro p hp
    unfold partsC at hp
    rcases List.mem_append.1 hp with hp | hp
    · rcases List.mem_cons.1 hp with rfl | hp
      · omega
      · rcases List.mem_cons.1 hp with rfl | hp
        · rw [idB_size]; omega
        · cases hp
    · obtain ⟨y, hy, rfl⟩ := List.mem_map.1 hp
      rw [idB_size]; have := hL y hy; omega)]
  simp only [partsC, List.cons_append, List.nil_append, getCP, data_idB]
  rw [if_pos (by rw [id32_cons, id32_idB hL, idB_size, hr, hg]; rfl)]
  rfl
theorem built_cm (parts : List (Nat × Value)) : Tryd.prog.built 40 parts = Instr.fill (fun i => (#[(0, 32), (32, 1), (33, 1)] : Array (Nat × Nat))[i]?) #[.int .u8 0, .int .u8 0, .int .u8 0, .int .u8 0, .int .u8 0, .int .u8 0, .int .u8 0, .int .u8 0, .int .u8 0, .int .u8 0, .int .u8 0, .int .u8 0, .int .u8 0, .int .u8 0, .int .u8 0, .int .u8 0, .int .u8 0, .int .u8 0, .int .u8 0, .int .u8 0, .int .u8 0, .int .u8 0, .int .u8 0, .int .u8 0, .int .u8 0, .int .u8 0, .int .u8 0, .int .u8 0, .int .u8 0, .int .u8 0, .int .u8 0, .int .u8 0, .slice none 0 0, .string ⟨#[]⟩] parts := by kernel_rfl
theorem cm_get (root : List UInt8) (pv : Value) (note : ByteArray) (h : root.length = 32) (i : Nat) : (cmL root pv note)[i]? = if i < 32 then (bytV root)[i]? else if i = 32 then some pv else if i = 33 then some (.string note) else none := by
  unfold cmL
  have hb : (bytV root).length = 32 := by rw [bytV_len, h]
  by_cases h1 : i < 32
  · rw [if_pos h1, List.getElem?_append_left (by omega)]
  · rw [if_neg h1, List.getElem?_append_right (by omega), hb]
    by_cases h2 : i = 32
    · subst h2; rfl
    · rw [if_neg h2]
      by_cases h3 : i = 33
      · subst h3; rfl
      · rw [if_neg h3, List.getElem?_eq_none (by simp only [List.length_cons, List.length_nil]; omega)]
theorem row0_get (i : Nat) : (#[.int .u8 0, .int .u8 0, .int .u8 0, .int .u8 0, .int .u8 0, .int .u8 0, .int .u8 0, .int .u8 0, .int .u8 0, .int .u8 0, .int .u8 0, .int .u8 0, .int .u8 0, .int .u8 0, .int .u8 0, .int .u8 0, .int .u8 0, .int .u8 0, .int .u8 0, .int .u8 0, .int .u8 0, .int .u8 0, .int .u8 0, .int .u8 0, .int .u8 0, .int .u8 0, .int .u8 0, .int .u8 0, .int .u8 0, .int .u8 0, .int .u8 0, .int .u8 0, .slice none 0 0, .string ⟨#[]⟩] : Array Value)[i]? = if i < 32 then some (.int .u8 0) else if i = 32 then some (.slice none 0 0) else if i = 33 then some (.string ⟨#[]⟩) else none := by
  match i with
  | 0 => rfl
  | 1 => rfl
  | 2 => rfl
  | 3 => rfl
  | 4 => rfl
  | 5 => rfl
  | 6 => rfl
  | 7 => rfl
  | 8 => rfl
  | 9 => rfl
  | 10 => rfl
  | 11 => rfl
  | 12 => rfl
  | 13 => rfl
  | 14 => rfl
  | 15 => rfl
  | 16 => rfl
  | 17 => rfl
  | 18 => rfl
  | 19 => rfl
  | 20 => rfl
  | 21 => rfl
  | 22 => rfl
  | 23 => rfl
  | 24 => rfl
  | 25 => rfl
  | 26 => rfl
  | 27 => rfl
  | 28 => rfl
  | 29 => rfl
  | 30 => rfl
  | 31 => rfl
  | 32 => rfl
  | 33 => rfl
  | i + 34 => rw [if_neg (by omega), if_neg (by omega), if_neg (by omega), Array.getElem?_eq_none (by simp)]
theorem foldl_size : ∀ (l : List Value) (k : Nat) (cs : Array Value), ((l.zipIdx k).foldl (fun (cs : Array Value) (x : Value × Nat) => cs.setIfInBounds x.2 x.1) cs).size = cs.size
  | [], k, cs => rfl
  | c :: l, k, cs => by
    rw [List.zipIdx_cons, List.foldl_cons, foldl_size l (k + 1), Array.size_setIfInBounds]
theorem build_cm (w : World) (root : List UInt8) (p : Option Addr) (n c : Nat) (note : ByteArray) (h : root.length = 32) :
    (Instr.build 40 #[(0, .agg (bytV root).toArray), (1, .slice p n c), (2, .string note)]).run Tryd.prog w = .ok (cmV root (.slice p n c) note) w := by
  refine run_build w 40 _ _ ?_
  rw [built_cm]
  have hb : (bytV root).length = 32 := by rw [bytV_len, h]
  have e : (Value.agg (bytV root).toArray).cells = (bytV root).toArray := rfl
  have e1 : (Value.string note).cells = #[.string note] := rfl
  have e2 : (Value.slice p n c).cells = #[.slice p n c] := rfl
  have h0 := row0_get
  have hs : (#[.int .u8 0, .int .u8 0, .int .u8 0, .int .u8 0, .int .u8 0, .int .u8 0, .int .u8 0, .int .u8 0, .int .u8 0, .int .u8 0, .int .u8 0, .int .u8 0, .int .u8 0, .int .u8 0, .int .u8 0, .int .u8 0, .int .u8 0, .int .u8 0, .int .u8 0, .int .u8 0, .int .u8 0, .int .u8 0, .int .u8 0, .int .u8 0, .int .u8 0, .int .u8 0, .int .u8 0, .int .u8 0, .int .u8 0, .int .u8 0, .int .u8 0, .int .u8 0, .slice none 0 0, .string ⟨#[]⟩] : Array Value).size = 34 := rfl
  generalize (#[.int .u8 0, .int .u8 0, .int .u8 0, .int .u8 0, .int .u8 0, .int .u8 0, .int .u8 0, .int .u8 0, .int .u8 0, .int .u8 0, .int .u8 0, .int .u8 0, .int .u8 0, .int .u8 0, .int .u8 0, .int .u8 0, .int .u8 0, .int .u8 0, .int .u8 0, .int .u8 0, .int .u8 0, .int .u8 0, .int .u8 0, .int .u8 0, .int .u8 0, .int .u8 0, .int .u8 0, .int .u8 0, .int .u8 0, .int .u8 0, .int .u8 0, .int .u8 0, .slice none 0 0, .string ⟨#[]⟩] : Array Value) = A at *
  simp only [Instr.fill, e, e1, e2, List.size_toArray, hb]
  simp
  have hf := fun i => foldl_get 0 (bytV root) 0 A i
  have hz := foldl_size (bytV root) 0 A
  simp only [Nat.zero_add, Nat.add_zero, Nat.sub_zero] at hf
  generalize List.foldl (fun (cs : Array Value) (x : Value × Nat) => cs.setIfInBounds x.2 x.1) A (bytV root).zipIdx = F at *
  refine ⟨by omega, by omega, by omega, ?_⟩
  apply Array.ext_getElem?
  intro i
  simp only [Array.getElem?_setIfInBounds, Array.size_setIfInBounds, hf, h0, hb, hs, hz, List.getElem?_toArray, cm_get root _ note h]
  by_cases h1 : i < 32
  · rw [if_neg (by omega), if_neg (by omega), if_pos (by omega), if_pos h1]
  · by_cases h2 : i = 32
    · subst h2; rfl
    · by_cases h3 : i = 33
      · subst h3; rfl
      · rw [if_neg (by omega), if_neg (by omega), if_neg (by omega), if_neg h1, if_neg h2, if_neg h3, if_neg h1, if_neg h2, if_neg h3]
theorem build_cm0 (w : World) : (Instr.build 40 #[]).run Tryd.prog w = .ok (cmV zeroId (.slice none 0 0) ⟨#[]⟩) w := by
  refine run_build w 40 _ _ ?_
  rw [built_cm]
  rfl
theorem build_cm2 (w : World) (root : List UInt8) (note : ByteArray) (h : root.length = 32) :
    (Instr.build 40 #[(2, .string note), (0, .agg (bytV root).toArray)]).run Tryd.prog w = .ok (cmV root (.slice none 0 0) note) w := by
  refine run_build w 40 _ _ ?_
  rw [built_cm]
  have hb : (bytV root).length = 32 := by rw [bytV_len, h]
  have e : (Value.agg (bytV root).toArray).cells = (bytV root).toArray := rfl
  have e1 : (Value.string note).cells = #[.string note] := rfl
  have h0 := row0_get
  have hs : (#[.int .u8 0, .int .u8 0, .int .u8 0, .int .u8 0, .int .u8 0, .int .u8 0, .int .u8 0, .int .u8 0, .int .u8 0, .int .u8 0, .int .u8 0, .int .u8 0, .int .u8 0, .int .u8 0, .int .u8 0, .int .u8 0, .int .u8 0, .int .u8 0, .int .u8 0, .int .u8 0, .int .u8 0, .int .u8 0, .int .u8 0, .int .u8 0, .int .u8 0, .int .u8 0, .int .u8 0, .int .u8 0, .int .u8 0, .int .u8 0, .int .u8 0, .int .u8 0, .slice none 0 0, .string ⟨#[]⟩] : Array Value).size = 34 := rfl
  generalize (#[.int .u8 0, .int .u8 0, .int .u8 0, .int .u8 0, .int .u8 0, .int .u8 0, .int .u8 0, .int .u8 0, .int .u8 0, .int .u8 0, .int .u8 0, .int .u8 0, .int .u8 0, .int .u8 0, .int .u8 0, .int .u8 0, .int .u8 0, .int .u8 0, .int .u8 0, .int .u8 0, .int .u8 0, .int .u8 0, .int .u8 0, .int .u8 0, .int .u8 0, .int .u8 0, .int .u8 0, .int .u8 0, .int .u8 0, .int .u8 0, .int .u8 0, .int .u8 0, .slice none 0 0, .string ⟨#[]⟩] : Array Value) = A at *
  simp only [Instr.fill, e, e1, List.size_toArray, hb]
  simp
  have hf := fun i => foldl_get 0 (bytV root) 0 (A.setIfInBounds 33 (.string note)) i
  simp only [Nat.zero_add, Nat.add_zero, Nat.sub_zero] at hf
  refine ⟨by omega, by omega, ?_⟩
  apply Array.ext_getElem?
  intro i
  rw [hf]
  simp only [Array.getElem?_setIfInBounds, Array.size_setIfInBounds, h0, hb, hs, List.getElem?_toArray, cm_get root _ note h]
  by_cases h1 : i < 32
  · rw [if_pos (by omega), if_pos h1]
  · by_cases h2 : i = 32
    · subst h2; rfl
    · by_cases h3 : i = 33
      · subst h3; rfl
      · rw [if_neg (by omega), if_neg (by omega), if_neg h1, if_neg h2, if_neg h3, if_neg h1, if_neg h2, if_neg h3]
end Go.Proofs.YtdhaanaenklleaaDoor
namespace Go.Proofs.YtdhaanaenklleaaDoor
set_option linter.unusedVariables false
set_option linter.unusedSimpArgs false
open Go.ChangeShapes Go.WideShapes Go.ChangeAt Go.RowKit

/-- Root, parents, note. -/
abbrev CmI := List UInt8 × List (List UInt8) × ByteArray × Unit
def cmR (W : World) : CmI → List Value → Prop := consR (bytR 32) (consR (rowsR W 32 (bytR 32)) (consR strR nilR))
theorem opens_cm (W : World) : Opens Tryd.prog W 40 (cmR W) :=
  opens_struct Tryd.underlying40 (by kernel_rfl) (opensF_cons (k := 32) rfl (by kernel_rfl) (opens_byt Tryd.underlying37 Tryd.underlying5 (by kernel_rfl) (by kernel_rfl))
    (opensF_cons (k := 1) rfl (by kernel_rfl) (opens_list Tryd.underlying38 (by kernel_rfl) (by decide) (opens_byt Tryd.underlying37 Tryd.underlying5 (by kernel_rfl) (by kernel_rfl)))
    (opensF_cons (k := 1) rfl (by kernel_rfl) (opens_str Tryd.underlying9) opensF_nil)))
theorem cm_cells {W : World} {c : CmI} {cs : List Value} (h : cmR W c cs) : ∃ p n k, cs = cmL c.1 (.slice p n k) c.2.2.1 ∧ n = c.2.1.length ∧ LAt 32 bytV W (.slice p n k) c.2.1 ∧ c.1.length = 32 ∧ c.2.2.1.size ≤ 140737488351232 := by
  obtain ⟨x1, y1, rfl, h1, x2, y2, rfl, ⟨v, rfl, hv⟩, x3, y3, rfl, h3, h4⟩ := h
  obtain ⟨rfl, hl⟩ := h1
  obtain ⟨rfl, hs⟩ := h3
  have h4' : y3 = [] := h4
  subst h4'
  have hla : LAt 32 bytV W v c.2.1 := LAt.ofRows (by decide) (fun x cs hx => hx.1) hv
  have hsh : ∃ p k, v = .slice p c.2.1.length k := by
    rcases hla.2 with ⟨p, cap, rfl, h0⟩ | ⟨b, off, cap, rfl, _⟩
    · exact ⟨p, cap, by rw [h0]; rfl⟩
    · exact ⟨_, _, rfl⟩
  obtain ⟨p, k, rfl⟩ := hsh
  exact ⟨p, _, k, rfl, rfl, hla, hl, hs⟩
end Go.Proofs.YtdhaanaenklleaaDoor
namespace Go.Proofs.YtdhaanaenklleaaDoor
set_option linter.unusedVariables false
set_option linter.unusedSimpArgs false
open Go.ChangeShapes Go.WideShapes Go.ChangeAt Go.RowKit

theorem boxL_alloc2 (w : World) (row : List Value) (t : TypeId) (w0 : World) (h : Below w0.heap.size w0 w) : BoxL w0 w.heap.size row (w.alloc (.cells row.toArray t)) :=
  ⟨by simp, fun j y hj => (alloc_at w row t j).trans hj, h.trans ((Below.refl _ w).alloc h.size _), h.size⟩
theorem cm_root_at {w x : World} {B : Nat} {root : List UInt8} {pv : Value} {note : ByteArray} (h : BoxL w B (cmL root pv note) x) : x.rangeAt B 0 (bytV root) := fun j y hj => by
  rw [Nat.zero_add]
  exact h.r j y (by unfold cmL; rw [List.getElem?_append_left (List.getElem?_eq_some_iff.1 hj).1]; exact hj)
theorem load_pv {w x : World} {B : Nat} {root : List UInt8} {p : Option Addr} {n c : Nat} {note : ByteArray} (h : BoxL w B (cmL root (.slice p n c) note) x) (hr : root.length = 32) : (loadVar 38 ⟨B, 32, none⟩).run Tryd.prog x = .ok (.slice p n c) x := by
  have := h.r 32 _ (cm_pv hr)
  simp [go_sem, this]
set_option maxRecDepth 100000 in
set_option maxHeartbeats 4000000 in
theorem sameCommit_any (r1 r2 : List UInt8) (L1 L2 : List (List UInt8)) (n1 n2 : ByteArray) (p1 p2 : Option Addr) (l1 l2 c1 c2 : Nat) (w : World) (hr1 : r1.length = 32) (hr2 : r2.length = 32)
    (hl1 : l1 = L1.length) (hl2 : l2 = L2.length) (hv1 : LAt 32 bytV w (.slice p1 l1 c1) L1) (hv2 : LAt 32 bytV w (.slice p2 l2 c2) L2) :
    Calls Tryd.prog 29 #[cmV r1 (.slice p1 l1 c1) n1, cmV r2 (.slice p2 l2 c2) n2] w fun e w' => e = .returned (.bool (decide (r1 = r2 ∧ n1 = n2 ∧ L1 = L2))) ∧ Below w.heap.size w w' := by
  obtain ⟨hL1, hp1⟩ := par_at hl1 hv1
  obtain ⟨hL2, hp2⟩ := par_at hl2 hv2
  have Hr1 := Lib.hid hr1
  have Hr2 := Lib.hid hr2
  have HL1 := Lib.hid hL1
  have HL2 := Lib.hid hL2
  have Hp1 := Lib.hid hp1
  have Hp2 := Lib.hid hp2
  have Hl1 := Lib.hid hl1
  have Hl2 := Lib.hid hl2
  have hz1 := cm_size (pv := .slice p1 l1 c1) (note := n1) hr1
  have hz2 := cm_size (pv := .slice p2 l2 c2) (note := n2) hr2
  have hb1 : BoxL w w.heap.size (cmL r1 (.slice p1 l1 c1) n1) (w.alloc (.cells (cmL r1 (.slice p1 l1 c1) n1).toArray 40)) := boxL_alloc w _ 40
  have hb2 : BoxL w (w.heap.size + 1) (cmL r2 (.slice p2 l2 c2) n2) ((w.alloc (.cells (cmL r1 (.slice p1 l1 c1) n1).toArray 40)).alloc (.cells (cmL r2 (.slice p2 l2 c2) n2).toArray 40)) := by
    have := boxL_alloc2 (w.alloc (.cells (cmL r1 (.slice p1 l1 c1) n1).toArray 40)) (cmL r2 (.slice p2 l2 c2) n2) 40 w hb1.b
    simpa using this
  replace hb1 := hb1.below ((Below.refl _ (w.alloc (.cells (cmL r1 (.slice p1 l1 c1) n1).toArray 40))).alloc (Nat.le_refl _) (.cells (cmL r2 (.slice p2 l2 c2) n2).toArray 40))
  have heq0 := fun w1 => eq_id (a := r1) (b := r2) hr1 hr2 w1
  unfold cmV
  obtain ⟨R1, hR1⟩ : ∃ R, R = (cmL r1 (.slice p1 l1 c1) n1).toArray := ⟨_, rfl⟩
  obtain ⟨R2, hR2⟩ : ∃ R, R = (cmL r2 (.slice p2 l2 c2) n2).toArray := ⟨_, rfl⟩
  rw [← hR1] at hz1 hb1 hb2 ⊢
  rw [← hR2] at hz2 hb1 hb2 ⊢
  have HX1 := Lib.hid hb1
  have HX2 := Lib.hid hb2
  have hc1 := hb1.r 33 _ (cm_note hr1)
  have hc2 := hb2.r 33 _ (cm_note hr2)
  have hd1 := hb1.r 32 _ (cm_pv hr1)
  have hd2 := hb2.r 32 _ (cm_pv hr2)
  clear hR1 hR2 hb1 hb2 hv1 hv2 hr1 hr2 hl1 hl2 hL1 hL2 hp1 hp2
  by_cases e1 : r1 = r2
  · have heq : ∀ w1, (Op.equalIn 10000 37 (.agg (bytV r1).toArray) (.agg (bytV r2).toArray)).run Tryd.prog w1 = .ok true w1 := fun w1 => by rw [heq0 w1, decide_eq_true e1]
    have E1 := Lib.hid e1
    clear heq0 e1
    by_cases e2 : n1 = n2
    · have E2 := Lib.hid e2
      have kn : (n1.toList == n2.toList) = true := beq_of e2
      clear e2
      by_cases e3 : l1 = l2
      · have e3I : (l1 : Int) = (l2 : Int) := by omega
        have E3 := Lib.hid e3
        subst e3
        go_enter Tryd.func29, Tryd.ntmps29
        go_wp2_with (first | (refine wpList_load_mid rfl 37 (.tmp 6) rfl w.heap.size 0 rfl (bytV r1) _ (cm_root_at HX1.out) Tryd.underlying37 rfl (by rw [bytV_len, Hr1.out]; kernel_rfl) ?_) | (refine wpList_load_mid rfl 37 (.tmp 8) rfl (w.heap.size + 1) 0 rfl (bytV r2) _ (cm_root_at HX2.out) Tryd.underlying37 rfl (by rw [bytV_len, Hr2.out]; kernel_rfl) ?_))
        clear heq hc1 hc2 hd1 hd2 hz1 hz2
        go_loopg [5, 30] l1 (fun g _ iv wr => ∃ k : Nat, k + g = l1 ∧ iv = .int .i64 k ∧ L1.take k = L2.take k ∧ Below ((w.alloc (.cells R1 40)).alloc (.cells R2 40)).heap.size ((w.alloc (.cells R1 40)).alloc (.cells R2 40)) wr)
        case atStart => exact ⟨0, by omega, rfl, rfl, Below.refl _ _⟩
        case round =>
          obtain ⟨k, hkg, rfl, hno, hB⟩ := hrel
          have Hno := Lib.hid hno
          clear hno
          have HY1 := Lib.hid (HX1.out.below hB)
          have HY2 := Lib.hid (HX2.out.below hB)
          have HB := Lib.hid HY1.out.b
          have hB0 := Lib.hid hB
          clear hB
          by_cases hlt : k < l1
          · have hltI : (k : Int) < (l1 : Int) := by omega
            have hka : k < L1.length := by have := Hl1.out; omega
            have hkb : k < L2.length := by have := Hl2.out; omega
            obtain ⟨g1, o1, rfl, hg1, hcap1, hmax1, hrg1⟩ := Hp1.out (by omega)
            obtain ⟨g2, o2, rfl, hg2, hcap2, hmax2, hrg2⟩ := Hp2.out (by omega)
            have ha1 : L1[k].length = 32 := HL1.out _ (List.getElem_mem hka)
            have ha2 : L2[k].length = 32 := HL2.out _ (List.getElem_mem hkb)
            have H1 := Lib.hid (fun v1 (h1 : Below wr.heap.size wr v1) => run_loadVar_mid (P := Tryd.prog) v1 g1 (o1 + k * 32) 37 (bytV L1[k]) _ (range_below hg1 (hrg1 k hka) (HB.out.trans (h1.mono HB.out.size))) Tryd.underlying37 rfl (by rw [bytV_len, ha1]; kernel_rfl))
            have H2 := Lib.hid (fun v1 (h1 : Below wr.heap.size wr v1) => run_loadVar_mid (P := Tryd.prog) v1 g2 (o2 + k * 32) 37 (bytV L2[k]) _ (range_below hg2 (hrg2 k hkb) (HB.out.trans (h1.mono HB.out.size))) Tryd.underlying37 rfl (by rw [bytV_len, ha2]; kernel_rfl))
            have HS1 := Lib.hid (fun v1 (h1 : Below wr.heap.size wr v1) => load_pv (HY1.out.below h1) Hr1.out)
            have HS2 := Lib.hid (fun v1 (h1 : Below wr.heap.size wr v1) => load_pv (HY2.out.below h1) Hr2.out)
            have heq := fun w1 => eq_id (a := L1[k]) (b := L2[k]) ha1 ha2 w1
            obtain ⟨r, hr⟩ : ∃ r, r = decide (L1[k] = L2[k]) := ⟨_, rfl⟩
            rw [← hr] at heq
            have Hr := Lib.hid hr
            clear hr hrg1 hrg2 ha1 ha2
            have Hst := Lib.hid (fun h : L1[k] = L2[k] => same_take hka hkb Hno.out h)
            obtain ⟨d1, hd1⟩ : ∃ d, d = L1[k] := ⟨_, rfl⟩
            obtain ⟨d2, hd2⟩ : ∃ d, d = L2[k] := ⟨_, rfl⟩
            rw [← hd1] at H1 heq
            rw [← hd2] at H2 heq
            clear hd1 hd2
            go_wp2_with fail
            cases r with
            | false =>
              have Hne : Hid (¬ (r1 = r2 ∧ n1 = n2 ∧ L1 = L2)) := Lib.hid (fun e => by
                have h := Hr.out
                have e3 := e.2.2
                subst e3
                simp at h)
              refine wp_region_class (Below wr.heap.size wr) (by kernel_rfl) (by kernel_rfl) (Below.refl _ _).drew ?_
              repeat (go_big_quiet_step (first | (intro _; rfl)))
              refine wpQuiet_load_at rfl 38 (.tmp 33) rfl ⟨w.heap.size, 32, none⟩ rfl _ HS1.out ?_
              simp only [Act.put, List.setIfInBounds_toArray, List.set_cons_succ, List.set_cons_zero]
              repeat (go_big_quiet_step (first | (intro _; rfl)))
              refine wpQuiet_load_at rfl 37 (.tmp 36) rfl ⟨g1, o1 + k * 32, none⟩ rfl _ H1.out ?_
              simp only [Act.put, List.setIfInBounds_toArray, List.set_cons_succ, List.set_cons_zero]
              repeat (go_big_quiet_step (first | (intro _; rfl)))
              refine wpQuiet_load_at rfl 38 (.tmp 38) rfl ⟨w.heap.size + 1, 32, none⟩ rfl _ HS2.out ?_
              simp only [Act.put, List.setIfInBounds_toArray, List.set_cons_succ, List.set_cons_zero]
              repeat (go_big_quiet_step (first | (intro _; rfl)))
              refine wpQuiet_load_at rfl 37 (.tmp 41) rfl ⟨g2, o2 + k * 32, none⟩ rfl _ H2.out ?_
              simp only [Act.put, List.setIfInBounds_toArray, List.set_cons_succ, List.set_cons_zero]
              repeat (go_big_quiet_step (first | (intro _; rfl)))
              refine wpQuiet_nil ?_
              intro wq hBq
              have HBq := Lib.hid (hB0.out.trans (hBq.mono hB0.out.size))
              clear hBq heq
              go_wp2_with fail
              go_ret
              exact ⟨by rw [decide_eq_false Hne.out]; rfl, HX2.out.b.trans (HBq.out.mono HX2.out.b.size)⟩
            | true =>
              have Hn := Lib.hid (Hst.out (of_decide_eq_true Hr.out.symm))
              refine wp_region_class (Below wr.heap.size wr) (by kernel_rfl) (by kernel_rfl) (Below.refl _ _).drew ?_
              repeat (go_big_quiet_step (first | (intro _; rfl)))
              refine wpQuiet_load_at rfl 38 (.tmp 33) rfl ⟨w.heap.size, 32, none⟩ rfl _ HS1.out ?_
              simp only [Act.put, List.setIfInBounds_toArray, List.set_cons_succ, List.set_cons_zero]
              repeat (go_big_quiet_step (first | (intro _; rfl)))
              refine wpQuiet_load_at rfl 37 (.tmp 36) rfl ⟨g1, o1 + k * 32, none⟩ rfl _ H1.out ?_
              simp only [Act.put, List.setIfInBounds_toArray, List.set_cons_succ, List.set_cons_zero]
              repeat (go_big_quiet_step (first | (intro _; rfl)))
              refine wpQuiet_load_at rfl 38 (.tmp 38) rfl ⟨w.heap.size + 1, 32, none⟩ rfl _ HS2.out ?_
              simp only [Act.put, List.setIfInBounds_toArray, List.set_cons_succ, List.set_cons_zero]
              repeat (go_big_quiet_step (first | (intro _; rfl)))
              refine wpQuiet_load_at rfl 37 (.tmp 41) rfl ⟨g2, o2 + k * 32, none⟩ rfl _ H2.out ?_
              simp only [Act.put, List.setIfInBounds_toArray, List.set_cons_succ, List.set_cons_zero]
              repeat (go_big_quiet_step (first | (intro _; rfl)))
              refine wpQuiet_nil ?_
              intro wq hBq
              have HBq := Lib.hid (hB0.out.trans (hBq.mono hB0.out.size))
              clear hBq heq
              go_wp2_with fail
              go_roundg (gk - 1)
              case measure => omega
              case rel => exact ⟨k + 1, by omega, by go_num, Hn.out, HBq.out⟩
          · have hnI : ¬ (k : Int) < (l1 : Int) := by omega
            have Hall : Hid (L1 = L2) := Lib.hid (by
              have h := Hno.out
              rwa [List.take_of_length_le (by have := Hl1.out; omega), List.take_of_length_le (by have := Hl2.out; omega)] at h)
            go_wp2_with fail
            go_ret
            exact ⟨by rw [decide_eq_true E1.out, decide_eq_true E2.out, decide_eq_true Hall.out]; rfl, HB.out⟩
      · have e3I : ¬ (l1 : Int) = (l2 : Int) := by omega
        have Hne : Hid (¬ (r1 = r2 ∧ n1 = n2 ∧ L1 = L2)) := Lib.hid (fun e => e3 (by rw [Hl1.out, Hl2.out, e.2.2]))
        go_enter Tryd.func29, Tryd.ntmps29
        go_wp2_with (first | (refine wpList_load_mid rfl 37 (.tmp 6) rfl w.heap.size 0 rfl (bytV r1) _ (cm_root_at HX1.out) Tryd.underlying37 rfl (by rw [bytV_len, Hr1.out]; kernel_rfl) ?_) | (refine wpList_load_mid rfl 37 (.tmp 8) rfl (w.heap.size + 1) 0 rfl (bytV r2) _ (cm_root_at HX2.out) Tryd.underlying37 rfl (by rw [bytV_len, Hr2.out]; kernel_rfl) ?_))
        go_ret
        exact ⟨by rw [decide_eq_false Hne.out]; rfl, HX2.out.b⟩
    · have Hne : Hid (¬ (r1 = r2 ∧ n1 = n2 ∧ L1 = L2)) := Lib.hid (fun e => e2 e.2.1)
      have kn : (n1.toList == n2.toList) = false := beq_of_ne e2
      go_enter Tryd.func29, Tryd.ntmps29
      go_wp2_with (first | (refine wpList_load_mid rfl 37 (.tmp 6) rfl w.heap.size 0 rfl (bytV r1) _ (cm_root_at HX1.out) Tryd.underlying37 rfl (by rw [bytV_len, Hr1.out]; kernel_rfl) ?_) | (refine wpList_load_mid rfl 37 (.tmp 8) rfl (w.heap.size + 1) 0 rfl (bytV r2) _ (cm_root_at HX2.out) Tryd.underlying37 rfl (by rw [bytV_len, Hr2.out]; kernel_rfl) ?_))
      go_ret
      exact ⟨by rw [decide_eq_false Hne.out]; rfl, HX2.out.b⟩
  · have heq : ∀ w1, (Op.equalIn 10000 37 (.agg (bytV r1).toArray) (.agg (bytV r2).toArray)).run Tryd.prog w1 = .ok false w1 := fun w1 => by rw [heq0 w1, decide_eq_false e1]
    have Hne : Hid (¬ (r1 = r2 ∧ n1 = n2 ∧ L1 = L2)) := Lib.hid (fun e => e1 e.1)
    clear heq0 e1
    go_enter Tryd.func29, Tryd.ntmps29
    go_wp2_with (first | (refine wpList_load_mid rfl 37 (.tmp 6) rfl w.heap.size 0 rfl (bytV r1) _ (cm_root_at HX1.out) Tryd.underlying37 rfl (by rw [bytV_len, Hr1.out]; kernel_rfl) ?_) | (refine wpList_load_mid rfl 37 (.tmp 8) rfl (w.heap.size + 1) 0 rfl (bytV r2) _ (cm_root_at HX2.out) Tryd.underlying37 rfl (by rw [bytV_len, Hr2.out]; kernel_rfl) ?_))
    go_ret
    exact ⟨by rw [decide_eq_false Hne.out]; rfl, HX2.out.b⟩
end Go.Proofs.YtdhaanaenklleaaDoor
