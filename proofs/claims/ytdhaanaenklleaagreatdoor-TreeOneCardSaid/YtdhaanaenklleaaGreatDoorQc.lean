/- The document's Put; The document's Join of two. -/
import Derived.Test.YtdhaanaenklleaaGreatDoorQb
import Derived.Test.YtdhaanaenklleaaGreatDoorXVZ
namespace Go.Proofs.YtdhaanaenklleaaGreatDoor
set_option linter.unusedVariables false
set_option linter.unusedSimpArgs false
open Go.ChangeShapes Go.WideShapes Go.ChangeAt Go.RowKit

def PutEnd (T : Nat → Prop) (b : Nat) (L A : List Obj8) (k s : ByteArray) (w : World) (e : Ending) (w' : World) : Prop :=
  e = .returned (.agg (bytV (kid k s)).toArray) ∧ ∃ T2 : Nat → Prop, (∀ q, T2 q → T q ∨ w.heap.size ≤ q) ∧ RSt T2 b (putL L (k, kid k s, s, ())) (A ++ [(k, kid k s, s, ())]) w' ∧ Kp T w w'
theorem okL {L : List Obj8} (h : ∀ o ∈ L, o.2.1.length = 32) {k s : ByteArray} : ∀ o ∈ L ++ [(k, kid k s, s, ())], o.2.1.length = 32 := fun o ho => by
  rcases List.mem_append.1 ho with ho | ho
  · exact h o ho
  · rw [List.mem_singleton.1 ho]; exact kid_len _ _
theorem any_next {L : List Obj8} {o : Obj8} {i : Nat} (hi : i < L.length) : (L.take (i + 1)).any (sameO o) = ((L.take i).any (sameO o) || sameO o L[i]) := by
  rw [List.take_succ_eq_append_getElem hi, List.any_append]; simp
theorem lat_at {X : Type} {n : Nat} {fl : X → List Value} {w : World} {p : Option Addr} {m c : Nat} {l : List X} (h : LAt n fl w (.slice p m c) l) : 0 < l.length → ∃ g o, p = some ⟨g, o, none⟩ ∧ g < w.heap.size ∧ l.length ≤ c ∧ c ≤ 9223372036854775807 ∧ ∀ k, ∀ hk : k < l.length, w.rangeAt g (o + k * n) (fl l[k]) := fun h0 => by
  rcases h.2 with ⟨_, _, _, hl⟩ | ⟨b, off, cap, e, hb, hc, hm, hcell⟩
  · rw [hl] at h0; simp at h0
  · injection e with e1 e2 e3
    subst e1; subst e3
    refine ⟨b, off, rfl, hb, hc, hm, fun k hk j v hv => ?_⟩
    have hj : j < n := by
      have := (List.getElem?_eq_some_iff.1 hv).1
      rw [h.1 _ (List.getElem_mem hk)] at this
      exact this
    have e2 := LF_at l h.1 k l[k] (List.getElem?_eq_getElem hk) j hj
    have h9 := hcell (k * n + j) v (by rw [e2]; exact hv)
    rw [Nat.add_assoc]; exact h9
theorem any_hit {L : List Obj8} {o : Obj8} {i : Nat} (hi : i < L.length) (h : sameO o L[i] = true) : L.any (sameO o) = true := by
  rw [List.any_eq_true]; exact ⟨_, List.getElem_mem hi, h⟩
set_option maxRecDepth 100000 in
set_option maxHeartbeats 12000000 in
theorem put19_any {T : Nat → Prop} {b : Nat} {L A : List Obj8} {w : World} (h : RSt T b L A w) (k s : ByteArray) (hk : k.size ≤ 16) (hs : s.size ≤ 1048576) (hL : L.length ≤ 65536) (hA : A.length ≤ 65536) :
    Calls Tryz.prog 19 #[.pointer (some ⟨b, 0, none⟩), .string k, .string s] w (PutEnd T b L A k s w) := by
  have hB0 := (Below.refl w.heap.size w).alloc (Nat.le_refl _) (.cells #[.int .u8 0, .int .u8 0, .int .u8 0, .int .u8 0, .int .u8 0, .int .u8 0, .int .u8 0, .int .u8 0, .int .u8 0, .int .u8 0, .int .u8 0, .int .u8 0, .int .u8 0, .int .u8 0, .int .u8 0, .int .u8 0, .int .u8 0, .int .u8 0, .int .u8 0, .int .u8 0, .int .u8 0, .int .u8 0, .int .u8 0, .int .u8 0, .int .u8 0, .int .u8 0, .int .u8 0, .int .u8 0, .int .u8 0, .int .u8 0, .int .u8 0, .int .u8 0] 32)
  have HR := Lib.hid (Res37.made w #[.int .u8 0, .int .u8 0, .int .u8 0, .int .u8 0, .int .u8 0, .int .u8 0, .int .u8 0, .int .u8 0, .int .u8 0, .int .u8 0, .int .u8 0, .int .u8 0, .int .u8 0, .int .u8 0, .int .u8 0, .int .u8 0, .int .u8 0, .int .u8 0, .int .u8 0, .int .u8 0, .int .u8 0, .int .u8 0, .int .u8 0, .int .u8 0, .int .u8 0, .int .u8 0, .int .u8 0, .int .u8 0, .int .u8 0, .int .u8 0, .int .u8 0, .int .u8 0] rfl)
  have HS := Lib.hid (refSum_big k s (w.alloc (.cells #[.int .u8 0, .int .u8 0, .int .u8 0, .int .u8 0, .int .u8 0, .int .u8 0, .int .u8 0, .int .u8 0, .int .u8 0, .int .u8 0, .int .u8 0, .int .u8 0, .int .u8 0, .int .u8 0, .int .u8 0, .int .u8 0, .int .u8 0, .int .u8 0, .int .u8 0, .int .u8 0, .int .u8 0, .int .u8 0, .int .u8 0, .int .u8 0, .int .u8 0, .int .u8 0, .int .u8 0, .int .u8 0, .int .u8 0, .int .u8 0, .int .u8 0, .int .u8 0] 32)) hk hs)
  rw [kid_ints] at HS
  have HH := Lib.hid h
  obtain ⟨idv, hidv⟩ : ∃ y, y = kid k s := ⟨_, rfl⟩
  rw [← hidv] at HS
  have Hidv := Lib.hid hidv
  have Hil := Lib.hid (show idv.length = 32 by rw [hidv]; exact kid_len _ _)
  have Hz := Lib.hid (id_size Hil.out)
  have Hone := Lib.hid (id_one idv)
  have Hs32 := Lib.hid (show (bytV idv).toArray.size = 32 by rw [List.size_toArray, bytV_len, Hil.out])
  have HLo := Lib.hid h.ok
  have HTl := Lib.hid h.lt
  clear hidv h hB0
  go_enter Tryz.func19, Tryz.ntmps19
  go_wp2_with fail
  generalize w.alloc (.cells #[.int .u8 0, .int .u8 0, .int .u8 0, .int .u8 0, .int .u8 0, .int .u8 0, .int .u8 0, .int .u8 0, .int .u8 0, .int .u8 0, .int .u8 0, .int .u8 0, .int .u8 0, .int .u8 0, .int .u8 0, .int .u8 0, .int .u8 0, .int .u8 0, .int .u8 0, .int .u8 0, .int .u8 0, .int .u8 0, .int .u8 0, .int .u8 0, .int .u8 0, .int .u8 0, .int .u8 0, .int .u8 0, .int .u8 0, .int .u8 0, .int .u8 0, .int .u8 0] 32) = w1 at *
  refine HS.out.mono ?_
  rintro e w2 ⟨rfl, hB2⟩
  have HR2 := Lib.hid (HR.out.below hB2)
  clear hB2 HS HR
  go_upto_region 2 with (first | (refine wpList_store_rowTo rfl 32 (.tmp 7) (.tmp 12) rfl rfl w2.heap.size (bytV idv).toArray rfl rfl 32 _ (heap_alloc_new w2 _) Hz.out (by rw [Hs32.out]; rfl) Hone.out ?_))
  have hB4 := below_setRow ((Below.refl w2.heap.size w2).alloc (Nat.le_refl _) (.cells #[.int .u8 0, .int .u8 0, .int .u8 0, .int .u8 0, .int .u8 0, .int .u8 0, .int .u8 0, .int .u8 0, .int .u8 0, .int .u8 0, .int .u8 0, .int .u8 0, .int .u8 0, .int .u8 0, .int .u8 0, .int .u8 0, .int .u8 0, .int .u8 0, .int .u8 0, .int .u8 0, .int .u8 0, .int .u8 0, .int .u8 0, .int .u8 0, .int .u8 0, .int .u8 0, .int .u8 0, .int .u8 0, .int .u8 0, .int .u8 0, .int .u8 0, .int .u8 0] 32)) (g := w2.heap.size) (Nat.le_refl _) (bytV idv).toArray
  have hG4 := setRow_heap (w2.alloc (.cells #[.int .u8 0, .int .u8 0, .int .u8 0, .int .u8 0, .int .u8 0, .int .u8 0, .int .u8 0, .int .u8 0, .int .u8 0, .int .u8 0, .int .u8 0, .int .u8 0, .int .u8 0, .int .u8 0, .int .u8 0, .int .u8 0, .int .u8 0, .int .u8 0, .int .u8 0, .int .u8 0, .int .u8 0, .int .u8 0, .int .u8 0, .int .u8 0, .int .u8 0, .int .u8 0, .int .u8 0, .int .u8 0, .int .u8 0, .int .u8 0, .int .u8 0, .int .u8 0] 32)) w2.heap.size _ (bytV idv).toArray 32 (0, 0) (heap_alloc_new w2 _)
  generalize (w2.alloc (.cells #[.int .u8 0, .int .u8 0, .int .u8 0, .int .u8 0, .int .u8 0, .int .u8 0, .int .u8 0, .int .u8 0, .int .u8 0, .int .u8 0, .int .u8 0, .int .u8 0, .int .u8 0, .int .u8 0, .int .u8 0, .int .u8 0, .int .u8 0, .int .u8 0, .int .u8 0, .int .u8 0, .int .u8 0, .int .u8 0, .int .u8 0, .int .u8 0, .int .u8 0, .int .u8 0, .int .u8 0, .int .u8 0, .int .u8 0, .int .u8 0, .int .u8 0, .int .u8 0] 32)).setRow w2.heap.size (bytV idv).toArray = w4 at *
  obtain ⟨idb, hidb⟩ : ∃ q, q = w2.heap.size := ⟨_, rfl⟩
  rw [← hidb] at hG4 ⊢
  have hwz2 := HR2.out.b.size
  have Hidb := Lib.hid (show w.heap.size ≤ idb by omega)
  have HG4 := Lib.hid hG4
  have HR4 := Lib.hid (HR2.out.below hB4)
  have HH4 := HH.out.below HR4.out.b
  obtain ⟨-, -, lv, av, hg, hlv, hav, hTb, hTlv, hTav, hdis⟩ := HH4
  have Hgw := Lib.hid hg
  have Hfv := Lib.hid hav
  have Hlv := Lib.hid hlv
  have HTb := Lib.hid hTb
  have HTlv := Lib.hid hTlv
  have HTav := Lib.hid hTav
  have Hdis := Lib.hid hdis
  have HLi := Lib.hid (fun wx (hx : Below w4.heap.size w4 wx) => run_loadVar_row (P := Tryz.prog) wx idb 32 32 (bytV idv).toArray (0, 0) _ ((hx.block _ (lt_of_block HG4.out)).trans HG4.out) Tryz.underlying32 rfl Hz.out)
  have hd4 : Below w4.heap.size w4 w4.drew := (Below.refl _ _).drew
  clear hg hlv hav hTb hTlv hTav hdis hG4 hB4 hidb
  have hRL : ∃ Rs : List (Value → World → Prop), Rs = [K3.PureV (.pointer (some ⟨b, 0, none⟩)),
      K3.PureV (.pointer (some ⟨b, 0, none⟩)),
      K3.PureV (.pointer (some ⟨b, 0, none⟩)),
      K3.PureV (.pointer (some ⟨b, 1, none⟩)),
      FvO b #[lv, av] A av w4,
      K3.PureV (.string k),
      K3.PureV (.agg (bytV idv).toArray),
      K3.PureV (.string s),
      K3.PureV (.agg (obV (k, idv, s, ())).toArray),
      K3.NewB 1 (obV (k, idv, s, ())).toArray 96,
      ApO b #[lv, av] (A ++ [(k, idv, s, ())]) av w4,
      K3.PureV (.pointer (some ⟨b, 0, none⟩)),
      K3.PureV (.pointer (some ⟨b, 1, none⟩)),
      StO b 1 #[lv, av] (A ++ [(k, idv, s, ())]) av w4] := ⟨_, rfl⟩
  obtain ⟨Rs, hRs⟩ := hRL
  refine K3.wp_region_rel2 0 (Nat.zero_le _) (K3.RL Rs) [2, 2, 2, 2, 1, 2, 2, 2, 2, 1, 1, 2, 2, 1] [1, 1, 1, 1, 1, 1, 1, 1, 1, 1, 2, 1, 1, 2] [[], [], [], [], [], [], [], [], [], [], [4, 9], [], [], [4, 9, 10]] (by kernel_rfl) (by kernel_rfl) (K3.RL.st1 (by rw [hRs]; exact K3.st1_cons (K3.PureV.st1 _) (K3.st1_cons (K3.PureV.st1 _) (K3.st1_cons (K3.PureV.st1 _) (K3.st1_cons (K3.PureV.st1 _) (K3.st1_cons (FvO.st1 _ _ _ _ _) (K3.st1_cons (K3.PureV.st1 _) (K3.st1_cons (K3.PureV.st1 _) (K3.st1_cons (K3.PureV.st1 _) (K3.st1_cons (K3.PureV.st1 _) (K3.st1_cons (K3.NewB.st1 _ _ _) (K3.st1_cons (ApO.st1 _ _ _ _ _) (K3.st1_cons (K3.PureV.st1 _) (K3.st1_cons (K3.PureV.st1 _) (K3.st1_cons (StO.st1 _ _ _ _ _ _) (K3.st1_nil)))))))))))))))) (K3.RL.st2 (by rw [hRs]; exact K3.st2_cons (K3.PureV.st2 _ _ _) (K3.st2_cons (K3.PureV.st2 _ _ _) (K3.st2_cons (K3.PureV.st2 _ _ _) (K3.st2_cons (K3.PureV.st2 _ _ _) (K3.st2_skip (K3.st2_cons (K3.PureV.st2 _ _ _) (K3.st2_cons (K3.PureV.st2 _ _ _) (K3.st2_cons (K3.PureV.st2 _ _ _) (K3.st2_cons (K3.PureV.st2 _ _ _) (K3.st2_skip (K3.st2_skip (K3.st2_cons (K3.PureV.st2 _ _ _) (K3.st2_cons (K3.PureV.st2 _ _ _) (K3.st2_skip (K3.st2_nil)))))))))))))))) ?_ ?_ ?_
  · intro i o d hi hd
    have hmem := List.mem_of_getElem? hi
    simp only [List.mem_cons, List.not_mem_nil, or_false] at hmem
    rcases hmem with rfl | rfl | rfl | rfl | rfl | rfl | rfl | rfl | rfl | rfl | rfl | rfl | rfl | rfl <;> simp at hd <;> (subst hd; simp)
  · refine K3.rel_start (Φ := K3.Hop _ _ _ _ _ _ _) ?_
    refine K3.rel_cons (Φ := K3.Hop _ _ _ _ _ _ _) (k := 0) ?_ ?_
    · intro fa fw hfB hfN hfE hfk hft
      have k0 : fa.eval (.tmp 0) = .pointer (some ⟨b, 0, none⟩) := hft 0 (K3.mem_looks (by kernel_rfl)) (K3.noneed (by kernel_rfl))
      rw [hRs]
      refine K3.hop_plain rfl ?_
      refine K3.out_move rfl ?_
      exact ⟨k0, Below.refl _ _⟩
    refine K3.rel_cons (Φ := K3.Hop _ _ _ _ _ _ _) (k := 1) ?_ ?_
    · intro fa fw hfB hfN hfE hfk hft
      have k0 : fa.eval (.tmp 0) = .pointer (some ⟨b, 0, none⟩) := hft 0 (K3.mem_looks (by kernel_rfl)) (K3.noneed (by kernel_rfl))
      rw [hRs]
      refine K3.hop_plain rfl ?_
      refine K3.out_move rfl ?_
      exact ⟨k0, Below.refl _ _⟩
    refine K3.rel_cons (Φ := K3.Hop _ _ _ _ _ _ _) (k := 2) ?_ ?_
    · intro fa fw hfB hfN hfE hfk hft
      have k14 : fa.eval (.tmp 14) = (.pointer (some ⟨b, 0, none⟩)) := by have := hfk 1 (K3.mem_needs (by kernel_rfl)) _ rfl; rw [hRs] at this; exact this
      rw [hRs]
      refine K3.hop_plain rfl ?_
      have kc : ∀ v, fa.eval (.const v) = v := fun _ => rfl
      generalize fa.eval = ρ at *
      exact K3.out_run (v := .pointer (some ⟨b, 0, none⟩)) (w' := fw) (by simp [execOp, kc, k14, go_sem]) ⟨rfl, Below.refl _ _⟩
    refine K3.rel_cons (Φ := K3.Hop _ _ _ _ _ _ _) (k := 3) ?_ ?_
    · intro fa fw hfB hfN hfE hfk hft
      have k15 : fa.eval (.tmp 15) = (.pointer (some ⟨b, 0, none⟩)) := by have := hfk 2 (K3.mem_needs (by kernel_rfl)) _ rfl; rw [hRs] at this; exact this
      rw [hRs]
      refine K3.hop_plain rfl ?_
      have kc : ∀ v, fa.eval (.const v) = v := fun _ => rfl
      generalize fa.eval = ρ at *
      exact K3.out_run (v := .pointer (some ⟨b, 1, none⟩)) (w' := fw) (by simp [execOp, kc, k15, go_sem]) ⟨rfl, Below.refl _ _⟩
    refine K3.rel_cons (Φ := K3.Hop _ _ _ _ _ _ _) (k := 4) ?_ ?_
    · intro fa fw hfB hfN hfE hfk hft
      have hE : Below w4.drew.heap.size w4.drew fw := hfE (by kernel_rfl)
      have k16 : fa.eval (.tmp 16) = (.pointer (some ⟨b, 1, none⟩)) := by have := hfk 3 (K3.mem_needs (by kernel_rfl)) _ rfl; rw [hRs] at this; exact this
      rw [hRs]
      refine K3.hop_plain rfl ?_
      have hbl := hd4.trans (hE.mono hd4.size)
      have hgx := (hbl.block _ (lt_of_block Hgw.out)).trans Hgw.out
      exact out_load3 rfl k16 (by simp [go_sem, block_cell hgx]) ⟨⟨rfl, gen_own_below Hfv.out hbl, hgx, Kp.of_below hbl⟩, Below.refl _ _⟩
    refine K3.rel_cons (Φ := K3.Hop _ _ _ _ _ _ _) (k := 5) ?_ ?_
    · intro fa fw hfB hfN hfE hfk hft
      have k1 : fa.eval (.tmp 1) = .string k := hft 1 (K3.mem_looks (by kernel_rfl)) (K3.noneed (by kernel_rfl))
      rw [hRs]
      refine K3.hop_plain rfl ?_
      refine K3.out_move rfl ?_
      exact ⟨k1, Below.refl _ _⟩
    refine K3.rel_cons (Φ := K3.Hop _ _ _ _ _ _ _) (k := 6) ?_ ?_
    · intro fa fw hfB hfN hfE hfk hft
      have hE : Below w4.drew.heap.size w4.drew fw := hfE (by kernel_rfl)
      have k7 : fa.eval (.tmp 7) = .pointer (some ⟨idb, 0, none⟩) := hft 7 (K3.mem_looks (by kernel_rfl)) (K3.noneed (by kernel_rfl))
      rw [hRs]
      refine K3.hop_plain rfl ?_
      exact out_load3 rfl k7 (HLi.out fw (hd4.trans (hE.mono hd4.size))) ⟨rfl, Below.refl _ _⟩
    refine K3.rel_cons (Φ := K3.Hop _ _ _ _ _ _ _) (k := 7) ?_ ?_
    · intro fa fw hfB hfN hfE hfk hft
      have k2 : fa.eval (.tmp 2) = .string s := hft 2 (K3.mem_looks (by kernel_rfl)) (K3.noneed (by kernel_rfl))
      rw [hRs]
      refine K3.hop_plain rfl ?_
      refine K3.out_move rfl ?_
      exact ⟨k2, Below.refl _ _⟩
    refine K3.rel_cons (Φ := K3.Hop _ _ _ _ _ _ _) (k := 8) ?_ ?_
    · intro fa fw hfB hfN hfE hfk hft
      have k18 : fa.eval (.tmp 18) = (.string k) := by have := hfk 5 (K3.mem_needs (by kernel_rfl)) _ rfl; rw [hRs] at this; exact this
      have k19 : fa.eval (.tmp 19) = (.agg (bytV idv).toArray) := by have := hfk 6 (K3.mem_needs (by kernel_rfl)) _ rfl; rw [hRs] at this; exact this
      have k20 : fa.eval (.tmp 20) = (.string s) := by have := hfk 7 (K3.mem_needs (by kernel_rfl)) _ rfl; rw [hRs] at this; exact this
      rw [hRs]
      refine K3.hop_plain rfl ?_
      exact out_build3 rfl (by simp only [List.map_toArray, List.map_cons, List.map_nil, k18, k19, k20]) (build_obj fw k s idv Hil.out) ⟨rfl, Below.refl _ _⟩
    refine K3.rel_cons (Φ := K3.Hop _ _ _ _ _ _ _) (k := 9) ?_ ?_
    · intro fa fw hfB hfN hfE hfk hft
      have k21 : fa.eval (.tmp 21) = (.agg (obV (k, idv, s, ())).toArray) := by have := hfk 8 (K3.mem_needs (by kernel_rfl)) _ rfl; rw [hRs] at this; exact this
      rw [hRs]
      refine K3.hop_plain rfl ?_
      exact out_bslice8 rfl (by simp only [List.map_toArray, List.map_cons, List.map_nil, k21]) (slice_one eltO fw (k, idv, s, ()) (obV_len Hil.out) (by decide)) ⟨⟨_, rfl, heap_alloc_new _ _⟩, (Below.refl _ _).alloc (Nat.le_refl _) _⟩
    refine K3.rel_cons (Φ := K3.Hop _ _ _ _ _ _ _) (k := 10) ?_ ?_
    · intro fa fw hfB hfN hfE hfk hft
      have k17 : (FvO b #[lv, av] A av w4) (fa.eval (.tmp 17)) fw := by have := hfk 4 (K3.mem_needs (by kernel_rfl)) _ rfl; rw [hRs] at this; exact this
      have k22 : (K3.NewB 1 (obV (k, idv, s, ())).toArray 96) (fa.eval (.tmp 22)) fw := by have := hfk 9 (K3.mem_needs (by kernel_rfl)) _ rfl; rw [hRs] at this; exact this
      rw [hRs]
      refine K3.hop_plain rfl ?_
      obtain ⟨he, ho0, hg0, hk0⟩ := k17
      obtain ⟨B1, hb1, hb2⟩ := k22
      obtain ⟨i0, z0, hi0, hz0, hz1, hz2, hzs⟩ := eltO.inf
      have hyl : (obV (k, idv, s, ())).length = 34 := obV_len Hil.out
      obtain ⟨v', w', hr, ho, hg, -, hwh⟩ := run_append_own_at (P := Tryz.prog) fw 0 50 50 96 i0 z0 34 _ eltO.tu hi0 hz0 hz1 hz2 hzs eltO.pos av A.length (LF obV A) ho0 ⟨B1, 0, none⟩ 1 1 (obV (k, idv, s, ())) (by rw [hyl]) (fun j u hj => by
        rw [gen_add_off, block_cell hb2, Nat.zero_add, List.getElem?_toArray]; exact hj) (fun u hu => eltO.one _ u hu) (by unfold maxLen; omega) (by omega) (Nat.zero_le _)
      have hgb : w'.heap[b]? = some (.cells #[lv, av] 52 (0, 0)) := (hg.block b (lt_of_block hg0) (fun e => by
        rcases ho0.2 with ⟨hv, _⟩ | ⟨g, cap, cur, hv, _, hgg, _⟩
        · rw [hv] at e; cases e
        · rw [hv] at e
          injection e with e
          have e2 : b = g := e
          rw [← e2, hg0] at hgg
          injection hgg with hgg
          injection hgg with _ h4 _
          cases h4)).trans hg0
      refine out_append_k8 (.tmp 17) (.tmp 22) 50 rfl he hb1 hr ⟨⟨by rw [List.length_append, LF_app, LF_one]; exact ho, hgb, hk0.trans (Kp.grown hg (fun q hq => .inr hq)), ?_⟩, (Below.refl 0 fw).grown hg (Nat.zero_le _) (fun q hq => Nat.zero_le _)⟩
      rcases hwh with hwh | hwh
      · exact .inl hwh
      · exact .inr ⟨_, hwh, hk0.size⟩
    refine K3.rel_cons (Φ := K3.Hop _ _ _ _ _ _ _) (k := 11) ?_ ?_
    · intro fa fw hfB hfN hfE hfk hft
      have k13 : fa.eval (.tmp 13) = (.pointer (some ⟨b, 0, none⟩)) := by have := hfk 0 (K3.mem_needs (by kernel_rfl)) _ rfl; rw [hRs] at this; exact this
      rw [hRs]
      refine K3.hop_plain rfl ?_
      have kc : ∀ v, fa.eval (.const v) = v := fun _ => rfl
      generalize fa.eval = ρ at *
      exact K3.out_run (v := .pointer (some ⟨b, 0, none⟩)) (w' := fw) (by simp [execOp, kc, k13, go_sem]) ⟨rfl, Below.refl _ _⟩
    refine K3.rel_cons (Φ := K3.Hop _ _ _ _ _ _ _) (k := 12) ?_ ?_
    · intro fa fw hfB hfN hfE hfk hft
      have k24 : fa.eval (.tmp 24) = (.pointer (some ⟨b, 0, none⟩)) := by have := hfk 11 (K3.mem_needs (by kernel_rfl)) _ rfl; rw [hRs] at this; exact this
      rw [hRs]
      refine K3.hop_plain rfl ?_
      have kc : ∀ v, fa.eval (.const v) = v := fun _ => rfl
      generalize fa.eval = ρ at *
      exact K3.out_run (v := .pointer (some ⟨b, 1, none⟩)) (w' := fw) (by simp [execOp, kc, k24, go_sem]) ⟨rfl, Below.refl _ _⟩
    refine K3.rel_cons (Φ := K3.Hop _ _ _ _ _ _ _) (k := 13) ?_ ?_
    · intro fa fw hfB hfN hfE hfk hft
      have k25 : fa.eval (.tmp 25) = (.pointer (some ⟨b, 1, none⟩)) := by have := hfk 12 (K3.mem_needs (by kernel_rfl)) _ rfl; rw [hRs] at this; exact this
      have k23 : (ApO b #[lv, av] (A ++ [(k, idv, s, ())]) av w4) (fa.eval (.tmp 23)) fw := by have := hfk 10 (K3.mem_needs (by kernel_rfl)) _ rfl; rw [hRs] at this; exact this
      rw [hRs]
      refine K3.hop_plain rfl ?_
      obtain ⟨ho, hg, hk1, hwh⟩ := k23
      obtain ⟨p7, c7, hv7⟩ := own_slice2 ho
      refine out_store50 (x := .tmp 25) (y := .tmp 23) rfl k25 hv7 hg (by simp) ⟨⟨⟨.slice p7 (A ++ [(k, idv, s, ())]).length c7, by rw [← hv7]; exact own_setCell8 ho hg (by decide), by rw [set_box8 hg], by rw [← hv7]; exact hwh⟩, hk1.trans ?_⟩, Below.setCell (B := 0) (Below.refl 0 fw) (p := ⟨b, 1, none⟩) (Nat.zero_le b) _⟩
      exact ⟨rfl, rfl, rfl, by simp [World.setCell], fun q hq hn => Below.heap_setCell _ _ _ _ (fun e => hn (.inl e))⟩
    exact K3.rel_nil
  · intro fa fw hfB hfy hff hfs hfd
    rw [hRs] at hfy
    have k13 := hfy 13 _ rfl (K3.unkilled (by decide))
    have e := K3.rel_frame [13, 14, 15, 16, 17, 18, 19, 20, 21, 22, 23, 24, 25] (by kernel_rfl) hff hfs hfd
    simp only [List.foldl] at e
    clear hfy hff hfs hfd 
    generalize fa.tmps.getD 13 undef = x13 at e
    generalize fa.tmps.getD 14 undef = x14 at e
    generalize fa.tmps.getD 15 undef = x15 at e
    generalize fa.tmps.getD 16 undef = x16 at e
    generalize fa.tmps.getD 17 undef = x17 at e
    generalize fa.tmps.getD 18 undef = x18 at e
    generalize fa.tmps.getD 19 undef = x19 at e
    generalize fa.tmps.getD 20 undef = x20 at e
    generalize fa.tmps.getD 21 undef = x21 at e
    generalize fa.tmps.getD 22 undef = x22 at e
    generalize fa.tmps.getD 23 undef = x23 at e
    generalize fa.tmps.getD 24 undef = x24 at e
    generalize fa.tmps.getD 25 undef = x25 at e
    simp [List.setIfInBounds_toArray, List.set_cons_succ, List.set_cons_zero] at e
    subst e
    obtain ⟨⟨av2, hav2, hg2, hwh2⟩, hK2⟩ := k13
    have hg2' : fw.heap[b]? = some (.cells #[lv, av2] 52 (0, 0)) := hg2
    have Hg2 := Lib.hid hg2'
    have Hav2 := Lib.hid hav2
    have Hwh2 := Lib.hid hwh2
    have HK2 := Lib.hid hK2
    have hnb : ∀ q, lv.ownBlock = some q → ¬ Rw b av q := fun q hq hr => by
      rcases hr with hr | hr
      · rcases Hlv.out.2 with ⟨hv, _⟩ | ⟨g, cap, cur, hv, _, hgg, _⟩
        · rw [hv] at hq; cases hq
        · rw [hv] at hq
          have e2 : g = q := by simpa [Value.ownBlock] using hq
          rw [e2, hr, Hgw.out] at hgg
          injection hgg with hgg
          injection hgg with _ h4 _
          cases h4
      · exact Hdis.out q hq hr
    have Hlv2 := Lib.hid (own_keep Hlv.out hK2 hnb)
    have HGi2 := Lib.hid ((hK2.block _ (lt_of_block HG4.out) (fun hr => by
      rcases hr with hr | hr
      · have := HTl.out _ HTb.out; have := Hidb.out; omega
      · have := HTl.out _ (HTav.out _ hr); have := Hidb.out; omega)).trans HG4.out)
    have HRr2 : ∃ cs, fw.heap[w.heap.size]? = some (.cells cs 32 (0, 0)) ∧ cs.size = 32 := by
      obtain ⟨cs, h1, h2⟩ := HR4.out.at_
      exact ⟨cs, (hK2.block _ (lt_of_block h1) (fun hr => by
        rcases hr with hr | hr
        · have := HTl.out _ HTb.out; omega
        · have := HTl.out _ (HTav.out _ hr); omega)).trans h1, h2⟩
    have HRr := Lib.hid HRr2
    have hlvd : ∀ q, lv.ownBlock = some q → av2.ownBlock ≠ some q := fun q hq hq2 => by
      rcases hwh2 with hw | ⟨q2, hw, hlt⟩
      · rw [hw] at hq2; exact Hdis.out q hq hq2
      · rw [hw] at hq2
        injection hq2 with hq2
        have := (own_lt Hlv.out hq).2
        omega
    have Hlvd := Lib.hid hlvd
    have hlvw : ∀ q, lv.ownBlock = some q → q < fw.heap.size := fun q hq => (own_lt Hlv2.out hq).2
    have Hlvw := Lib.hid hlvw
    have Hrow := Lib.hid (LAt.own (e := 96) (fun o ho => obV_len (HLo.out.1 o ho)) Hlv2.out)
    obtain ⟨lp, lc, hlve⟩ := own_slice2 Hlv.out
    have Hlve := Lib.hid hlve
    obtain ⟨len, hlen⟩ : ∃ len, len = L.length := ⟨_, rfl⟩
    have Hlen := Lib.hid hlen
    rw [← hlen] at hlve
    subst hlve
    have kl0 : fw.cell? ⟨b, 0, none⟩ = some (.slice lp len lc) := block_cell hg2' 0
    clear hav2 hg2 hwh2 hK2 hg2' hnb HRr2 hlvd hlvw hlen hfB HLi hd4
    go_wp2_with fail
    go_loopg [31] len (fun g iv wr => ∃ i : Nat, i + g = len ∧ iv = .int .i64 i ∧ (L.take i).any (sameO (k, idv, s, ())) = false ∧ Below fw.heap.size fw wr)
    case atStart => exact ⟨0, by omega, rfl, rfl, Below.refl _ _⟩
    case round =>
      obtain ⟨i, hig, rfl, hno, hB⟩ := hrel
      have Hno := Lib.hid hno
      have HB := Lib.hid hB
      clear hno hB
      by_cases hlt : i < len
      · have hltI : (i : Int) < (len : Int) := by omega
        have hiL : i < L.length := by have := Hlen.out; omega
        obtain ⟨g1, o1, rfl, hg1, hlc, hlm, hrange⟩ := lat_at Hrow.out (by omega)
        obtain ⟨x, hx⟩ : ∃ x, x = L[i] := ⟨_, rfl⟩
        have hrg := hrange i hiL
        rw [← hx] at hrg
        have Hrg := Lib.hid (range_below hg1 hrg HB.out)
        have Hx := Lib.hid hx
        have hxl : x.2.1.length = 32 := by rw [hx]; exact HLo.out.1 _ (List.getElem_mem hiL)
        have hl34 := obV_len hxl
        have hlcL : len ≤ lc := by have := Hlen.out; omega
        have Hone1 := Lib.hid (one_row (obV_one x))
        have hi0 : (Tryz.prog.info? 96).map (·.size) = some 34 := by kernel_rfl
        have Hi1 := Lib.hid (show (Tryz.prog.info? 96).map (·.size) = some (obV x).length by rw [hi0, hl34])
        have Hi2 := Lib.hid (show (Tryz.prog.info? 96).map (·.size) = some ((obV x).toArray).size by rw [hi0, List.size_toArray, hl34])
        have Hsz2 := Lib.hid (show 34 = ((obV x).toArray).size by rw [List.size_toArray, hl34])
        have Hbx := Lib.hid (fun old => boxL_made wr old 96 (obV x))
        have Hxl := Lib.hid hxl
        clear hrange hrg hx hxl hl34 hi0
        obtain ⟨xk, xi, xs, ⟨⟩⟩ := x
        simp only at Hxl
        go_upto_region 6 with (first | (refine wpList_load_mid rfl 96 (.tmp 33) rfl g1 (o1 + i * 34) rfl (obV (xk, xi, xs, ())) _ Hrg.out Tryz.underlying96 rfl Hi1.out ?_) | (refine wpList_store_rowTo rfl 96 (.tmp 9) (.tmp 34) rfl rfl wr.heap.size (obV (xk, xi, xs, ())).toArray rfl rfl 96 _ (heap_alloc_new wr _) Hi2.out (by rw [← Hsz2.out]; rfl) Hone1.out ?_))
        refine box_abs (Hbx.out _) ?_
        intro w8 hbx8
        have HB8 := Lib.hid (HB.out.trans (hbx8.b.mono HB.out.size))
        have kx0 := hbx8.r 0 (.string xk) rfl
        have Hmid := Lib.hid (show w8.rangeAt wr.heap.size 1 (bytV xi) from fun j y hy => hbx8.r (1 + j) y (by
          rw [Nat.add_comm 1 j]
          show (bytV xi ++ [.string xs])[j]? = some y
          rw [List.getElem?_append_left (List.getElem?_eq_some_iff.1 hy).1]; exact hy))
        have HGi8 := Lib.hid ((HB8.out.block _ (lt_of_block HGi2.out)).trans HGi2.out)
        clear hbx8 Hbx Hrg Hone1 Hi1 Hi2 Hsz2
        by_cases hk1 : xk = k
        · by_cases hid1 : xi = idv
          · have hhit := Lib.hid (any_hit (o := (k, idv, s, ())) hiL (by rw [← Hx.out]; unfold sameO; rw [decide_eq_true hk1, decide_eq_true hid1]; rfl))
            subst hk1; subst hid1
            have hkk : (xk.toList == xk.toList) = true := by simp
            have heq := fun v1 => eq_id (a := xi) (b := xi) Hxl.out Hxl.out v1
            rw [decide_eq_true (rfl : xi = xi)] at heq
            have HKw := Lib.hid (HK2.out.trans (Kp.of_below HB8.out))
            obtain ⟨cs, hcs0, hcz⟩ := HRr.out
            have HCs := Lib.hid ((HB8.out.block _ (lt_of_block hcs0)).trans hcs0)
            clear hcs0
            go_wp2_with (first | (refine wpList_load_mid_g8 rfl 32 (.tmp 40) rfl wr.heap.size 1 rfl (bytV xi) _ Hmid.out Tryz.underlying32 rfl (by rw [bytV_len, Hxl.out]; kernel_rfl) ?_) | (refine wpList_load_row_g8 rfl 32 (.tmp 7) rfl idb rfl 32 (bytV xi).toArray (0, 0) HGi8.out Tryz.underlying32 Hz.out ?_) | (refine wpList_load_row rfl 32 (.tmp 7) rfl idb rfl 32 (bytV xi).toArray (0, 0) _ HGi8.out Tryz.underlying32 rfl Hz.out ?_) | (refine wpList_store_rowTo rfl 32 (.tmp 6) (.tmp 45) rfl rfl w.heap.size (bytV xi).toArray rfl rfl 32 cs HCs.out Hz.out (by rw [hcz, Hs32.out]) Hone.out ?_))
            refine bodyPost_ret (v := .agg (bytV xi).toArray) (results_cell_row (fr := (0, 0)) rfl _ _ w.heap.size 32 _ _ rfl (setRow_heap _ _ _ (bytV xi).toArray 32 (0, 0) HCs.out) Tryz.underlying32 rfl Hz.out) rfl ?_
            refine ⟨by rw [Hidv.out], fun q => T q ∨ av2.ownBlock = some q, fun q hq => ?_, ?_, ?_⟩
            · rcases hq with hq | hq
              · exact .inl hq
              · rcases Hwh2.out with hw | ⟨q2, hw, hlt2⟩
                · rw [hw] at hq; exact .inl (HTav.out q hq)
                · rw [hw] at hq; injection hq with hq
                  exact .inr (by have := HR4.out.b.size; omega)
            · rw [show putL L (xk, kid xk s, s, ()) = L by unfold putL; rw [← Hidv.out, hhit.out]; rfl, ← Hidv.out]
              have hne : ∀ q, q < w.heap.size → q ≠ w.heap.size := fun q hq => by omega
              have hR : RSt (fun q => T q ∨ av2.ownBlock = some q) b L (A ++ [(xk, xi, s, ())]) w8 := by
                refine RSt.below (w := fw) ⟨fun q hq => ?_, ⟨HLo.out.1, by rw [Hidv.out]; exact okL HLo.out.2⟩, _, av2, Hg2.out, Hlv2.out, Hav2.out, .inl HTb.out, fun q hq => .inl (HTlv.out q hq), fun q hq => .inr hq, Hlvd.out⟩ HB8.out
                rcases hq with hq | hq
                · have := HTl.out q hq; have := HR4.out.b.size; have := HK2.out.size; omega
                · exact (own_lt Hav2.out hq).2
              refine hR.keep (T2 := fun q => q = w.heap.size) ⟨rfl, rfl, rfl, by simp [World.setRow], fun q hq hn => setRow_other _ _ _ _ hn⟩ (fun q hq he => ?_)
              rcases hq with hq | hq
              · have := HTl.out q hq; omega
              · rcases Hwh2.out with hw | ⟨q2, hw, hlt2⟩
                · rw [hw] at hq; have := HTl.out q (HTav.out q hq); omega
                · rw [hw] at hq; injection hq with hq
                  have h3 := HR4.out.at_
                  obtain ⟨cs3, h4, _⟩ := h3
                  have := lt_of_block h4
                  omega
            · have hKT : Kp T w8 w8 := Kp.refl _ _
              refine Kp.setRow (Kp.trans (Kp.of_below HR4.out.b) (HKw.out.mono (fun q hq => ?_))) (Nat.le_refl _)
              rcases hq with hq | hq
              · rw [hq]; exact HTb.out
              · exact HTav.out q hq
          · have hno1 := Lib.hid (show sameO (k, idv, s, ()) L[i] = false by rw [← Hx.out]; unfold sameO; rw [decide_eq_false (show ¬ (xk, xi, xs, ()).2.1 = (k, idv, s, ()).2.1 from hid1), Bool.and_false])
            subst hk1
            have hkk : (xk.toList == xk.toList) = true := by simp
            have heq := fun v1 => eq_id (a := xi) (b := idv) Hxl.out Hil.out v1
            rw [decide_eq_false hid1] at heq
            clear hid1
            go_wp2_with (first | (refine wpList_load_mid_g8 rfl 32 (.tmp 40) rfl wr.heap.size 1 rfl (bytV xi) _ Hmid.out Tryz.underlying32 rfl (by rw [bytV_len, Hxl.out]; kernel_rfl) ?_) | (refine wpList_load_row_g8 rfl 32 (.tmp 7) rfl idb rfl 32 (bytV idv).toArray (0, 0) HGi8.out Tryz.underlying32 Hz.out ?_))
            go_roundg (gk - 1)
            case measure => omega
            case rel => exact ⟨i + 1, by omega, by go_num, by rw [any_next hiL, Hno.out, hno1.out]; rfl, HB8.out⟩
        · have hno1 := Lib.hid (show sameO (k, idv, s, ()) L[i] = false by rw [← Hx.out]; unfold sameO; rw [decide_eq_false (show ¬ (xk, xi, xs, ()).1 = (k, idv, s, ()).1 from hk1)]; rfl)
          have hkk : (xk.toList == k.toList) = false := beq_of_ne hk1
          clear hk1
          go_wp2_with fail
          go_roundg (gk - 1)
          case measure => omega
          case rel => exact ⟨i + 1, by omega, by go_num, by rw [any_next hiL, Hno.out, hno1.out]; rfl, HB8.out⟩
      · have hnI : ¬ (i : Int) < (len : Int) := by omega
        have hall := Lib.hid (show putL L (k, idv, s, ()) = L ++ [(k, idv, s, ())] by
          have h := Hno.out
          rw [show i = L.length by have := Hlen.out; omega, List.take_length] at h
          unfold putL; rw [h]; rfl)
        have hgw := (HB.out.block _ (lt_of_block Hg2.out)).trans Hg2.out
        have Hgw3 := Lib.hid hgw
        have Hlv3 := Lib.hid (gen_own_below Hlv2.out HB.out)
        have Hav3 := Lib.hid (gen_own_below Hav2.out HB.out)
        have HGi3 := Lib.hid ((HB.out.block _ (lt_of_block HGi2.out)).trans HGi2.out)
        have HK3' := Lib.hid (HK2.out.trans (Kp.of_below HB.out))
        obtain ⟨cs, hcs0, hcz⟩ := HRr.out
        have HCs := Lib.hid ((HB.out.block _ (lt_of_block hcs0)).trans hcs0)
        clear hcs0 hgw
        clear Hgw Hfv Hlv
        have Hgw := Lib.hid Hgw3.out
        have Hfv := Lib.hid Hlv3.out
        go_upto_region 9 with fail
        have HLi := Lib.hid (fun wx (hx : Below wr.heap.size wr wx) => run_loadVar_row (P := Tryz.prog) wx idb 32 32 (bytV idv).toArray (0, 0) _ ((hx.block _ (lt_of_block HGi3.out)).trans HGi3.out) Tryz.underlying32 rfl Hz.out)
        have hd4 : Below wr.heap.size wr wr.drew := (Below.refl _ _).drew
        have hRL : ∃ Rs : List (Value → World → Prop), Rs = [K3.PureV (.pointer (some ⟨b, 0, none⟩)),
            K3.PureV (.pointer (some ⟨b, 0, none⟩)),
            K3.PureV (.pointer (some ⟨b, 0, none⟩)),
            K3.PureV (.pointer (some ⟨b, 0, none⟩)),
            FvO b #[.slice lp len lc, av2] L (.slice lp len lc) wr,
            K3.PureV (.string k),
            K3.PureV (.agg (bytV idv).toArray),
            K3.PureV (.string s),
            K3.PureV (.agg (obV (k, idv, s, ())).toArray),
            K3.NewB 1 (obV (k, idv, s, ())).toArray 96,
            ApO b #[.slice lp len lc, av2] (L ++ [(k, idv, s, ())]) (.slice lp len lc) wr,
            K3.PureV (.pointer (some ⟨b, 0, none⟩)),
            K3.PureV (.pointer (some ⟨b, 0, none⟩)),
            StO b 0 #[.slice lp len lc, av2] (L ++ [(k, idv, s, ())]) (.slice lp len lc) wr] := ⟨_, rfl⟩
        obtain ⟨Rs, hRs⟩ := hRL
        refine K3.wp_region_rel2 0 (Nat.zero_le _) (K3.RL Rs) [2, 2, 2, 2, 1, 2, 2, 2, 2, 1, 1, 2, 2, 1] [1, 1, 1, 1, 1, 1, 1, 1, 1, 1, 2, 1, 1, 2] [[], [], [], [], [], [], [], [], [], [], [4, 9], [], [], [4, 9, 10]] (by kernel_rfl) (by kernel_rfl) (K3.RL.st1 (by rw [hRs]; exact K3.st1_cons (K3.PureV.st1 _) (K3.st1_cons (K3.PureV.st1 _) (K3.st1_cons (K3.PureV.st1 _) (K3.st1_cons (K3.PureV.st1 _) (K3.st1_cons (FvO.st1 _ _ _ _ _) (K3.st1_cons (K3.PureV.st1 _) (K3.st1_cons (K3.PureV.st1 _) (K3.st1_cons (K3.PureV.st1 _) (K3.st1_cons (K3.PureV.st1 _) (K3.st1_cons (K3.NewB.st1 _ _ _) (K3.st1_cons (ApO.st1 _ _ _ _ _) (K3.st1_cons (K3.PureV.st1 _) (K3.st1_cons (K3.PureV.st1 _) (K3.st1_cons (StO.st1 _ _ _ _ _ _) (K3.st1_nil)))))))))))))))) (K3.RL.st2 (by rw [hRs]; exact K3.st2_cons (K3.PureV.st2 _ _ _) (K3.st2_cons (K3.PureV.st2 _ _ _) (K3.st2_cons (K3.PureV.st2 _ _ _) (K3.st2_cons (K3.PureV.st2 _ _ _) (K3.st2_skip (K3.st2_cons (K3.PureV.st2 _ _ _) (K3.st2_cons (K3.PureV.st2 _ _ _) (K3.st2_cons (K3.PureV.st2 _ _ _) (K3.st2_cons (K3.PureV.st2 _ _ _) (K3.st2_skip (K3.st2_skip (K3.st2_cons (K3.PureV.st2 _ _ _) (K3.st2_cons (K3.PureV.st2 _ _ _) (K3.st2_skip (K3.st2_nil)))))))))))))))) ?_ ?_ ?_
        · intro i o d hi hd
          have hmem := List.mem_of_getElem? hi
          simp only [List.mem_cons, List.not_mem_nil, or_false] at hmem
          rcases hmem with rfl | rfl | rfl | rfl | rfl | rfl | rfl | rfl | rfl | rfl | rfl | rfl | rfl | rfl <;> simp at hd <;> (subst hd; simp)
        · refine K3.rel_start (Φ := K3.Hop _ _ _ _ _ _ _) ?_
          refine K3.rel_cons (Φ := K3.Hop _ _ _ _ _ _ _) (k := 0) ?_ ?_
          · intro fy fx hfB hfN hfE hfk hft
            have k0 : fy.eval (.tmp 0) = .pointer (some ⟨b, 0, none⟩) := hft 0 (K3.mem_looks (by kernel_rfl)) (K3.noneed (by kernel_rfl))
            rw [hRs]
            refine K3.hop_plain rfl ?_
            refine K3.out_move rfl ?_
            exact ⟨k0, Below.refl _ _⟩
          refine K3.rel_cons (Φ := K3.Hop _ _ _ _ _ _ _) (k := 1) ?_ ?_
          · intro fy fx hfB hfN hfE hfk hft
            have k0 : fy.eval (.tmp 0) = .pointer (some ⟨b, 0, none⟩) := hft 0 (K3.mem_looks (by kernel_rfl)) (K3.noneed (by kernel_rfl))
            rw [hRs]
            refine K3.hop_plain rfl ?_
            refine K3.out_move rfl ?_
            exact ⟨k0, Below.refl _ _⟩
          refine K3.rel_cons (Φ := K3.Hop _ _ _ _ _ _ _) (k := 2) ?_ ?_
          · intro fy fx hfB hfN hfE hfk hft
            have k48 : fy.eval (.tmp 48) = (.pointer (some ⟨b, 0, none⟩)) := by have := hfk 1 (K3.mem_needs (by kernel_rfl)) _ rfl; rw [hRs] at this; exact this
            rw [hRs]
            refine K3.hop_plain rfl ?_
            have kc : ∀ v, fy.eval (.const v) = v := fun _ => rfl
            generalize fy.eval = ρ at *
            exact K3.out_run (v := .pointer (some ⟨b, 0, none⟩)) (w' := fx) (by simp [execOp, kc, k48, go_sem]) ⟨rfl, Below.refl _ _⟩
          refine K3.rel_cons (Φ := K3.Hop _ _ _ _ _ _ _) (k := 3) ?_ ?_
          · intro fy fx hfB hfN hfE hfk hft
            have k49 : fy.eval (.tmp 49) = (.pointer (some ⟨b, 0, none⟩)) := by have := hfk 2 (K3.mem_needs (by kernel_rfl)) _ rfl; rw [hRs] at this; exact this
            rw [hRs]
            refine K3.hop_plain rfl ?_
            have kc : ∀ v, fy.eval (.const v) = v := fun _ => rfl
            generalize fy.eval = ρ at *
            exact K3.out_run (v := .pointer (some ⟨b, 0, none⟩)) (w' := fx) (by simp [execOp, kc, k49, go_sem]) ⟨rfl, Below.refl _ _⟩
          refine K3.rel_cons (Φ := K3.Hop _ _ _ _ _ _ _) (k := 4) ?_ ?_
          · intro fy fx hfB hfN hfE hfk hft
            have hE : Below wr.drew.heap.size wr.drew fx := hfE (by kernel_rfl)
            have k50 : fy.eval (.tmp 50) = (.pointer (some ⟨b, 0, none⟩)) := by have := hfk 3 (K3.mem_needs (by kernel_rfl)) _ rfl; rw [hRs] at this; exact this
            rw [hRs]
            refine K3.hop_plain rfl ?_
            have hbl := hd4.trans (hE.mono hd4.size)
            have hgx := (hbl.block _ (lt_of_block Hgw.out)).trans Hgw.out
            exact out_load3 rfl k50 (by simp [go_sem, block_cell hgx]) ⟨⟨rfl, gen_own_below Hfv.out hbl, hgx, Kp.of_below hbl⟩, Below.refl _ _⟩
          refine K3.rel_cons (Φ := K3.Hop _ _ _ _ _ _ _) (k := 5) ?_ ?_
          · intro fy fx hfB hfN hfE hfk hft
            have k1 : fy.eval (.tmp 1) = .string k := hft 1 (K3.mem_looks (by kernel_rfl)) (K3.noneed (by kernel_rfl))
            rw [hRs]
            refine K3.hop_plain rfl ?_
            refine K3.out_move rfl ?_
            exact ⟨k1, Below.refl _ _⟩
          refine K3.rel_cons (Φ := K3.Hop _ _ _ _ _ _ _) (k := 6) ?_ ?_
          · intro fy fx hfB hfN hfE hfk hft
            have hE : Below wr.drew.heap.size wr.drew fx := hfE (by kernel_rfl)
            have k7 : fy.eval (.tmp 7) = .pointer (some ⟨idb, 0, none⟩) := hft 7 (K3.mem_looks (by kernel_rfl)) (K3.noneed (by kernel_rfl))
            rw [hRs]
            refine K3.hop_plain rfl ?_
            exact out_load3 rfl k7 (HLi.out fx (hd4.trans (hE.mono hd4.size))) ⟨rfl, Below.refl _ _⟩
          refine K3.rel_cons (Φ := K3.Hop _ _ _ _ _ _ _) (k := 7) ?_ ?_
          · intro fy fx hfB hfN hfE hfk hft
            have k2 : fy.eval (.tmp 2) = .string s := hft 2 (K3.mem_looks (by kernel_rfl)) (K3.noneed (by kernel_rfl))
            rw [hRs]
            refine K3.hop_plain rfl ?_
            refine K3.out_move rfl ?_
            exact ⟨k2, Below.refl _ _⟩
          refine K3.rel_cons (Φ := K3.Hop _ _ _ _ _ _ _) (k := 8) ?_ ?_
          · intro fy fx hfB hfN hfE hfk hft
            have k52 : fy.eval (.tmp 52) = (.string k) := by have := hfk 5 (K3.mem_needs (by kernel_rfl)) _ rfl; rw [hRs] at this; exact this
            have k53 : fy.eval (.tmp 53) = (.agg (bytV idv).toArray) := by have := hfk 6 (K3.mem_needs (by kernel_rfl)) _ rfl; rw [hRs] at this; exact this
            have k54 : fy.eval (.tmp 54) = (.string s) := by have := hfk 7 (K3.mem_needs (by kernel_rfl)) _ rfl; rw [hRs] at this; exact this
            rw [hRs]
            refine K3.hop_plain rfl ?_
            exact out_build3 rfl (by simp only [List.map_toArray, List.map_cons, List.map_nil, k52, k53, k54]) (build_obj fx k s idv Hil.out) ⟨rfl, Below.refl _ _⟩
          refine K3.rel_cons (Φ := K3.Hop _ _ _ _ _ _ _) (k := 9) ?_ ?_
          · intro fy fx hfB hfN hfE hfk hft
            have k55 : fy.eval (.tmp 55) = (.agg (obV (k, idv, s, ())).toArray) := by have := hfk 8 (K3.mem_needs (by kernel_rfl)) _ rfl; rw [hRs] at this; exact this
            rw [hRs]
            refine K3.hop_plain rfl ?_
            exact out_bslice8 rfl (by simp only [List.map_toArray, List.map_cons, List.map_nil, k55]) (slice_one eltO fx (k, idv, s, ()) (obV_len Hil.out) (by decide)) ⟨⟨_, rfl, heap_alloc_new _ _⟩, (Below.refl _ _).alloc (Nat.le_refl _) _⟩
          refine K3.rel_cons (Φ := K3.Hop _ _ _ _ _ _ _) (k := 10) ?_ ?_
          · intro fy fx hfB hfN hfE hfk hft
            have k51 : (FvO b #[.slice lp len lc, av2] L (.slice lp len lc) wr) (fy.eval (.tmp 51)) fx := by have := hfk 4 (K3.mem_needs (by kernel_rfl)) _ rfl; rw [hRs] at this; exact this
            have k56 : (K3.NewB 1 (obV (k, idv, s, ())).toArray 96) (fy.eval (.tmp 56)) fx := by have := hfk 9 (K3.mem_needs (by kernel_rfl)) _ rfl; rw [hRs] at this; exact this
            rw [hRs]
            refine K3.hop_plain rfl ?_
            obtain ⟨he, ho0, hg0, hk0⟩ := k51
            obtain ⟨B1, hb1, hb2⟩ := k56
            obtain ⟨i0, z0, hi0, hz0, hz1, hz2, hzs⟩ := eltO.inf
            have hyl : (obV (k, idv, s, ())).length = 34 := obV_len Hil.out
            obtain ⟨v', w', hr, ho, hg, -, hwh⟩ := run_append_own_at (P := Tryz.prog) fx 0 50 50 96 i0 z0 34 _ eltO.tu hi0 hz0 hz1 hz2 hzs eltO.pos (.slice lp len lc) L.length (LF obV L) ho0 ⟨B1, 0, none⟩ 1 1 (obV (k, idv, s, ())) (by rw [hyl]) (fun j u hj => by
              rw [gen_add_off, block_cell hb2, Nat.zero_add, List.getElem?_toArray]; exact hj) (fun u hu => eltO.one _ u hu) (by unfold maxLen; omega) (by omega) (Nat.zero_le _)
            have hgb : w'.heap[b]? = some (.cells #[.slice lp len lc, av2] 52 (0, 0)) := (hg.block b (lt_of_block hg0) (fun e => by
              rcases ho0.2 with ⟨hv, _⟩ | ⟨g, cap, cur, hv, _, hgg, _⟩
              · rw [hv] at e; cases e
              · rw [hv] at e
                injection e with e
                have e2 : b = g := e
                rw [← e2, hg0] at hgg
                injection hgg with hgg
                injection hgg with _ h4 _
                cases h4)).trans hg0
            refine out_append_k8 (.tmp 51) (.tmp 56) 50 rfl he hb1 hr ⟨⟨by rw [List.length_append, LF_app, LF_one]; exact ho, hgb, hk0.trans (Kp.grown hg (fun q hq => .inr hq)), ?_⟩, (Below.refl 0 fx).grown hg (Nat.zero_le _) (fun q hq => Nat.zero_le _)⟩
            rcases hwh with hwh | hwh
            · exact .inl hwh
            · exact .inr ⟨_, hwh, hk0.size⟩
          refine K3.rel_cons (Φ := K3.Hop _ _ _ _ _ _ _) (k := 11) ?_ ?_
          · intro fy fx hfB hfN hfE hfk hft
            have k47 : fy.eval (.tmp 47) = (.pointer (some ⟨b, 0, none⟩)) := by have := hfk 0 (K3.mem_needs (by kernel_rfl)) _ rfl; rw [hRs] at this; exact this
            rw [hRs]
            refine K3.hop_plain rfl ?_
            have kc : ∀ v, fy.eval (.const v) = v := fun _ => rfl
            generalize fy.eval = ρ at *
            exact K3.out_run (v := .pointer (some ⟨b, 0, none⟩)) (w' := fx) (by simp [execOp, kc, k47, go_sem]) ⟨rfl, Below.refl _ _⟩
          refine K3.rel_cons (Φ := K3.Hop _ _ _ _ _ _ _) (k := 12) ?_ ?_
          · intro fy fx hfB hfN hfE hfk hft
            have k58 : fy.eval (.tmp 58) = (.pointer (some ⟨b, 0, none⟩)) := by have := hfk 11 (K3.mem_needs (by kernel_rfl)) _ rfl; rw [hRs] at this; exact this
            rw [hRs]
            refine K3.hop_plain rfl ?_
            have kc : ∀ v, fy.eval (.const v) = v := fun _ => rfl
            generalize fy.eval = ρ at *
            exact K3.out_run (v := .pointer (some ⟨b, 0, none⟩)) (w' := fx) (by simp [execOp, kc, k58, go_sem]) ⟨rfl, Below.refl _ _⟩
          refine K3.rel_cons (Φ := K3.Hop _ _ _ _ _ _ _) (k := 13) ?_ ?_
          · intro fy fx hfB hfN hfE hfk hft
            have k59 : fy.eval (.tmp 59) = (.pointer (some ⟨b, 0, none⟩)) := by have := hfk 12 (K3.mem_needs (by kernel_rfl)) _ rfl; rw [hRs] at this; exact this
            have k57 : (ApO b #[.slice lp len lc, av2] (L ++ [(k, idv, s, ())]) (.slice lp len lc) wr) (fy.eval (.tmp 57)) fx := by have := hfk 10 (K3.mem_needs (by kernel_rfl)) _ rfl; rw [hRs] at this; exact this
            rw [hRs]
            refine K3.hop_plain rfl ?_
            obtain ⟨ho, hg, hk1, hwh⟩ := k57
            obtain ⟨p7, c7, hv7⟩ := own_slice2 ho
            refine out_store50 (x := .tmp 59) (y := .tmp 57) rfl k59 hv7 hg (by simp) ⟨⟨⟨.slice p7 (L ++ [(k, idv, s, ())]).length c7, by rw [← hv7]; exact own_setCell8 ho hg (by decide), by rw [set_box8 hg], by rw [← hv7]; exact hwh⟩, hk1.trans ?_⟩, Below.setCell (B := 0) (Below.refl 0 fx) (p := ⟨b, 0, none⟩) (Nat.zero_le b) _⟩
            exact ⟨rfl, rfl, rfl, by simp [World.setCell], fun q hq hn => Below.heap_setCell _ _ _ _ (fun e => hn (.inl e))⟩
          exact K3.rel_nil
        · intro fy fx hfB hfy hff hfs hfd
          rw [hRs] at hfy
          have k13 := hfy 13 _ rfl (K3.unkilled (by decide))
          have e := K3.rel_frame [47, 48, 49, 50, 51, 52, 53, 54, 55, 56, 57, 58, 59] (by kernel_rfl) hff hfs hfd
          simp only [List.foldl] at e
          clear hfy hff hfs hfd 
          generalize fy.tmps.getD 47 undef = x47 at e
          generalize fy.tmps.getD 48 undef = x48 at e
          generalize fy.tmps.getD 49 undef = x49 at e
          generalize fy.tmps.getD 50 undef = x50 at e
          generalize fy.tmps.getD 51 undef = x51 at e
          generalize fy.tmps.getD 52 undef = x52 at e
          generalize fy.tmps.getD 53 undef = x53 at e
          generalize fy.tmps.getD 54 undef = x54 at e
          generalize fy.tmps.getD 55 undef = x55 at e
          generalize fy.tmps.getD 56 undef = x56 at e
          generalize fy.tmps.getD 57 undef = x57 at e
          generalize fy.tmps.getD 58 undef = x58 at e
          generalize fy.tmps.getD 59 undef = x59 at e
          simp [List.setIfInBounds_toArray, List.set_cons_succ, List.set_cons_zero] at e
          subst e
          obtain ⟨⟨lv9, hlv9, hg9, hwh9⟩, hK9⟩ := k13
          have hg9' : fx.heap[b]? = some (.cells #[lv9, av2] 52 (0, 0)) := hg9
          have hnid : ¬ Rw b (.slice lp len lc) idb := fun hr => by
            rcases hr with hr | hr
            · have := HTl.out _ HTb.out; have := Hidb.out; omega
            · have h1 := HTlv.out idb (by rw [Hlve.out, ← Hlen.out]; exact hr); have := HTl.out _ h1; have := Hidb.out; omega
          have hnw : ¬ Rw b (.slice lp len lc) w.heap.size := fun hr => by
            rcases hr with hr | hr
            · have := HTl.out _ HTb.out; omega
            · have h1 := HTlv.out w.heap.size (by rw [Hlve.out, ← Hlen.out]; exact hr); have := HTl.out _ h1; omega
          have HGi9 := Lib.hid ((hK9.block _ (lt_of_block HGi3.out) hnid).trans HGi3.out)
          have HCs9 := Lib.hid ((hK9.block _ (lt_of_block HCs.out) hnw).trans HCs.out)
          have Hav9 := Lib.hid (own_keep Hav3.out hK9 (fun q hq hr => by
            rcases hr with hr | hr
            · rcases Hav3.out.2 with ⟨hv, _⟩ | ⟨g, cap, cur, hv, _, hgg, _⟩
              · rw [hv] at hq; cases hq
              · rw [hv] at hq
                have e2 : g = q := by simpa [Value.ownBlock] using hq
                rw [e2, hr, Hgw.out] at hgg
                injection hgg with hgg
                injection hgg with _ h4 _
                cases h4
            · exact Hlvd.out q (by rw [Hlve.out, ← Hlen.out]; exact hr) hq))
          have hlvd9 : ∀ q, lv9.ownBlock = some q → av2.ownBlock ≠ some q := fun q hq hq2 => by
            rcases hwh9 with hw | ⟨q2, hw, hlt⟩
            · rw [hw] at hq; exact Hlvd.out q (by rw [Hlve.out, ← Hlen.out]; exact hq) hq2
            · rw [hw] at hq
              injection hq with hq
              have := (own_lt Hav3.out hq2).2
              omega
          have HKz := Lib.hid ((HK3'.out.mono (T2 := T) (fun q hq => by
            rcases hq with hq | hq
            · rw [hq]; exact HTb.out
            · exact HTav.out q hq)).trans (hK9.mono (T2 := T) (fun q hq => by
            rcases hq with hq | hq
            · rw [hq]; exact HTb.out
            · exact HTlv.out q (by rw [Hlve.out, ← Hlen.out]; exact hq))))
          clear hnid hnw
          go_wp2_with (first | (refine wpList_load_row_g8 rfl 32 (.tmp 7) rfl idb rfl 32 (bytV idv).toArray (0, 0) HGi9.out Tryz.underlying32 Hz.out ?_) | (refine wpList_load_row rfl 32 (.tmp 7) rfl idb rfl 32 (bytV idv).toArray (0, 0) _ HGi9.out Tryz.underlying32 rfl Hz.out ?_) | (refine wpList_store_rowTo rfl 32 (.tmp 6) (.tmp 60) rfl rfl w.heap.size (bytV idv).toArray rfl rfl 32 cs HCs9.out Hz.out (by rw [hcz, Hs32.out]) Hone.out ?_))
          refine bodyPost_ret (v := .agg (bytV idv).toArray) (results_cell_row (fr := (0, 0)) rfl _ _ w.heap.size 32 _ _ rfl (setRow_heap _ _ _ (bytV idv).toArray 32 (0, 0) HCs9.out) Tryz.underlying32 rfl Hz.out) rfl ?_
          refine ⟨by rw [Hidv.out], fun q => T q ∨ av2.ownBlock = some q ∨ lv9.ownBlock = some q, fun q hq => ?_, ?_, ?_⟩
          · rcases hq with hq | hq | hq
            · exact .inl hq
            · rcases Hwh2.out with hw | ⟨q2, hw, hlt2⟩
              · rw [hw] at hq; exact .inl (HTav.out q hq)
              · rw [hw] at hq; injection hq with hq
                exact .inr (by have := HR4.out.b.size; omega)
            · rcases hwh9 with hw | ⟨q2, hw, hlt2⟩
              · rw [hw] at hq; exact .inl (HTlv.out q (by rw [Hlve.out, ← Hlen.out]; exact hq))
              · rw [hw] at hq; injection hq with hq
                exact .inr (by have := HR4.out.b.size; have := HK2.out.size; have := HB.out.size; omega)
          · rw [← Hidv.out, hall.out]
            have hwr : w4.heap.size ≤ wr.heap.size := Nat.le_trans HK2.out.size HB.out.size
            have hR : RSt (fun q => T q ∨ av2.ownBlock = some q ∨ lv9.ownBlock = some q) b (L ++ [(k, idv, s, ())]) (A ++ [(k, idv, s, ())]) fx := by
              refine ⟨fun q hq => ?_, ⟨by rw [Hidv.out]; exact okL HLo.out.1, by rw [Hidv.out]; exact okL HLo.out.2⟩, lv9, av2, hg9', hlv9, Hav9.out, .inl HTb.out, fun q hq => .inr (.inr hq), fun q hq => .inr (.inl hq), hlvd9⟩
              rcases hq with hq | hq | hq
              · have := HTl.out q hq; have := HR4.out.b.size; have := hK9.size; omega
              · exact (own_lt Hav9.out hq).2
              · exact (own_lt hlv9 hq).2
            refine hR.keep (T2 := fun q => q = w.heap.size) ⟨rfl, rfl, rfl, by simp [World.setRow], fun q hq hn => setRow_other _ _ _ _ hn⟩ (fun q hq he => ?_)
            rcases hq with hq | hq | hq
            · have := HTl.out q hq; omega
            · rcases Hwh2.out with hw | ⟨q2, hw, hlt2⟩
              · rw [hw] at hq; have := HTl.out q (HTav.out q hq); omega
              · rw [hw] at hq; injection hq with hq
                obtain ⟨cs3, h4, _⟩ := HR4.out.at_
                have := lt_of_block h4
                omega
            · rcases hwh9 with hw | ⟨q2, hw, hlt2⟩
              · rw [hw] at hq; have := HTl.out q (HTlv.out q (by rw [Hlve.out, ← Hlen.out]; exact hq)); omega
              · rw [hw] at hq; injection hq with hq
                obtain ⟨cs3, h4, _⟩ := HR4.out.at_
                have := lt_of_block h4
                omega
          · exact Kp.setRow (Kp.trans (Kp.of_below HR4.out.b) HKz.out) (Nat.le_refl _)
end Go.Proofs.YtdhaanaenklleaaGreatDoor
namespace Go.Proofs.YtdhaanaenklleaaGreatDoor
set_option linter.unusedVariables false
set_option linter.unusedSimpArgs false
open Go.ChangeShapes Go.WideShapes Go.ChangeAt Go.RowKit

theorem jn_step (a b : ByteArray) : jn a b = if some1 b then (if some1 a then a ++ ⟨#[47]⟩ ++ b else b) else a := by
  cases hb : some1 b with
  | true =>
    cases ha : some1 a with
    | true => rw [jn_two ha hb]; rfl
    | false => rw [jn_right ha hb]; rfl
  | false =>
    unfold jn joinS
    cases ha : some1 a with
    | true => rw [show [a, b].filter some1 = [a] by simp [ha, hb], joinB_one]; rfl
    | false => rw [show [a, b].filter some1 = [] by simp [ha, hb], empty_of a ha]; rfl
def stp (a b : ByteArray) : Nat → ByteArray
  | 0 => ⟨#[]⟩
  | 1 => a
  | _ => jn a b
theorem stp_next (a b : ByteArray) (k : Nat) (hk : k < 2) : stp a b (k + 1) = if some1 (if k = 0 then a else b) then (if some1 (stp a b k) then stp a b k ++ ⟨#[47]⟩ ++ (if k = 0 then a else b) else (if k = 0 then a else b)) else stp a b k := by
  match k, hk with
  | 0, _ =>
    show a = if some1 a then (if some1 (⟨#[]⟩ : ByteArray) then _ else a) else ⟨#[]⟩
    cases ha : some1 a with
    | true => rfl
    | false => exact empty_of a ha
  | 1, _ => exact jn_step a b
theorem stp_size {a b : ByteArray} (ha : a.size ≤ 1000000000) (k : Nat) (hk : k < 2) : (stp a b k).size ≤ 1000000000 := by
  match k, hk with
  | 0, _ => show (⟨#[]⟩ : ByteArray).size ≤ _; decide
  | 1, _ => exact ha
set_option maxRecDepth 100000 in
set_option maxHeartbeats 2000000 in
theorem refJn_any (a b : ByteArray) (g c : Nat) (w : World) (ha : a.size ≤ 1000000000) (hb : b.size ≤ 10000000) (hg : w.heap[g]? = some (.cells #[.string a, .string b] 9 (0, 0))) :
    Calls Tryz.prog 73 #[.slice (some ⟨g, 0, none⟩) 2 c] w fun e w' => e = .returned (.string (jn a b)) ∧ w = w' := by
  have k01 : ∀ k, k < 2 → w.cell? ⟨g, k, none⟩ = some (.string (if k = 0 then a else b)) := fun k hk => by
    match k, hk with
    | 0, _ => exact block_cell hg 0
    | 1, _ => exact block_cell hg 1
  have Hc := Lib.hid k01
  clear k01 hg
  go_enter Tryz.func73, Tryz.ntmps73
  go_wp2_with fail
  go_loopg [3, 5, 8] 2 (fun g sv _ iv wr => ∃ k : Nat, k + g = 2 ∧ iv = .int .i64 k ∧ sv = .string (stp a b k) ∧ w = wr)
  case atStart => exact ⟨0, by omega, rfl, rfl, rfl⟩
  case round =>
    obtain ⟨k, hkg, rfl, rfl, rfl⟩ := hrel
    by_cases hlt : k < 2
    · have hltI : (k : Int) < 2 := by omega
      have hc1 := Hc.out k hlt
      have hstep := stp_next a b k hlt
      have hxs := stp_size (b := b) ha k hlt
      have hys : (if k = 0 then a else b).size ≤ 1000000000 := by split <;> omega
      generalize (if k = 0 then a else b) = y at *
      generalize stp a b k = x at *
      cases hs1 : some1 y with
      | true =>
        obtain ⟨y1, y2⟩ := some_facts hs1
        cases hs2 : some1 x with
        | true =>
          obtain ⟨x1, x2⟩ := some_facts hs2
          have Hst := Lib.hid (show stp a b (k + 1) = x ++ ⟨#[47]⟩ ++ y by rw [hstep, hs1, hs2]; rfl)
          clear hs1 hs2 hstep
          go_wp2_with fail
          go_roundg (gk - 1)
          case measure => omega
          case rel => exact ⟨k + 1, by omega, by go_num, by rw [Hst.out], rfl⟩
        | false =>
          obtain ⟨x1, x2⟩ := none_facts hs2
          have hx := empty_of x hs2
          have Hst := Lib.hid (show stp a b (k + 1) = x ++ y by rw [hstep, hs1, hs2, hx]; apply ba_ext; rw [ba_append]; rfl)
          clear hs1 hs2 hstep hx
          go_wp2_with fail
          go_roundg (gk - 1)
          case measure => omega
          case rel => exact ⟨k + 1, by omega, by go_num, by rw [Hst.out], rfl⟩
      | false =>
        obtain ⟨y1, y2⟩ := none_facts hs1
        have hye := empty_of y hs1
        have Hst := Lib.hid (show stp a b (k + 1) = x ++ y by rw [hstep, hs1, hye]; apply ba_ext; rw [ba_append]; show x.data.toList = x.data.toList ++ []; rw [List.append_nil])
        clear hs1 hstep hye
        go_wp2_with fail
        go_roundg (gk - 1)
        case measure => omega
        case rel => exact ⟨k + 1, by omega, by go_num, by rw [Hst.out], rfl⟩
    · have hk : k = 2 := by omega
      subst hk
      go_wp2_with fail
      go_ret
      exact ⟨rfl, rfl⟩
/-- The files below a directory. -/
def filt (d : ByteArray) (l : List Fil) : List Fil := l.filter (fun x => (underB d x.1).2)
theorem filt_low {d : ByteArray} {l : List Fil} (h : SortedF l) (ha : Apart l) : Low d (filt d l) := by
  have hsub : (filt d l).Sublist l := List.filter_sublist
  refine ⟨?_, ⟨fun x hx => ha.1 x (hsub.subset hx), ha.2.sublist (hsub.map _)⟩, fun x hx => (List.mem_filter.1 hx).2⟩
  have hp := (h.pw).sublist hsub
  exact fun i j x y hij hx hy => by
    obtain ⟨hi, rfl⟩ := List.getElem?_eq_some_iff.1 hx
    obtain ⟨hj, rfl⟩ := List.getElem?_eq_some_iff.1 hy
    exact List.pairwise_iff_getElem.1 hp i j hi hj hij
theorem under_head {d : ByteArray} {x : Fil} {p : ByteArray} (hx : goodB x.1 = true) (hp1 : some1 p = true) (hp2 : (47 : UInt8) ∉ p.data.toList) (u : (underB (jn d p) x.1).2 = true) : (underB d x.1).2 = true ∧ hdP d x = p := by
  have hs := good_some hx
  have h1 := under_parts hs u
  rw [jn_parts (d := d) hp1 hp2, List.append_assoc, List.singleton_append] at h1
  have hu : (underB d x.1).2 = true := by
    cases hd : some1 d with
    | false => rw [under_empty d x.1 hd]; exact hs
    | true => rw [pre_under hd hs h1 (by simp) (fun z hz => part_some (good_all hx z (by rw [← good_split hx, h1]; exact List.mem_append_right _ hz)))]
  refine ⟨hu, ?_⟩
  have h2 := under_parts hs hu
  rw [h1] at h2
  have h3 := List.append_cancel_left h2
  unfold hdP partH
  rw [← h3]; rfl
/-- Of files below d, those below the first one's directory are the first ones. -/
theorem filt_take {d : ByteArray} {l P : List Fil} {f : Fil} {r : List Fil} (hF : filt d l = P ++ f :: r) (hL : Low d (P ++ f :: r)) (hw : hdP d f ≠ (underB d f.1).1) (hP : ∀ x ∈ P, bl (hdP d x) (hdP d f) = true) (hg : ∀ x ∈ l, goodB x.1 = true) :
    filt (jn d (hdP d f)) l = (f :: r).take (belowN (jn d (hdP d f)) (f :: r)) := by
  have hfr : Low d (f :: r) := by
    have := hL.drop P.length
    simpa using this
  have gf := hfr.a.1 f List.mem_cons_self
  have uf := hfr.u f List.mem_cons_self
  obtain ⟨b1, b2, b3⟩ := below_head gf uf hw
  have h1 : filt (jn d (hdP d f)) l = filt (jn d (hdP d f)) (filt d l) := by
    unfold filt
    rw [List.filter_filter]
    refine List.filter_congr (fun x hx => ?_)
    cases e : (underB (jn d (hdP d f)) x.1).2 with
    | false => simp
    | true => rw [(under_head (hg x hx) b1 b2 e).1]; rfl
  have hno : ∀ x, goodB x.1 = true → hdP d x ≠ hdP d f → (underB (jn d (hdP d f)) x.1).2 = false := fun x gx hne => by
    cases e : (underB (jn d (hdP d f)) x.1).2 with
    | false => rfl
    | true => exact absurd (under_head gx b1 b2 e).2 hne
  have hirr : ∀ {a b : ByteArray}, bl a b = true → a ≠ b := fun {a b} h e => by
    rw [e, bl_so.irr] at h; cases h
  rw [h1, hF]
  unfold filt
  rw [List.filter_append]
  have hP0 : P.filter (fun x => (underB (jn d (hdP d f)) x.1).2) = [] := List.filter_eq_nil_iff.2 (fun x hx => by
    rw [hno x (hL.a.1 x (List.mem_append_left _ hx)) (hirr (hP x hx))]; simp)
  rw [hP0, List.nil_append]
  conv => lhs; rw [← List.take_append_drop (belowN (jn d (hdP d f)) (f :: r)) (f :: r)]
  rw [List.filter_append]
  have hT : ((f :: r).take (belowN (jn d (hdP d f)) (f :: r))).filter (fun x => (underB (jn d (hdP d f)) x.1).2) = (f :: r).take (belowN (jn d (hdP d f)) (f :: r)) := List.filter_eq_self.2 belowN_all
  have hD : ((f :: r).drop (belowN (jn d (hdP d f)) (f :: r))).filter (fun x => (underB (jn d (hdP d f)) x.1).2) = [] := List.filter_eq_nil_iff.2 (fun x hx => by
    rw [hno x (hfr.a.1 x (List.mem_of_mem_drop hx)) (fun e => hirr (gt_dir hfr hw x hx) e.symm)]; simp)
  rw [hT, hD, List.append_nil]
end Go.Proofs.YtdhaanaenklleaaGreatDoor
