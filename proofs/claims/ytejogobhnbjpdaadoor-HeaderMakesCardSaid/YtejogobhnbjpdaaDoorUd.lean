/- Walks: the statement HeaderMarks. -/
import Derived.Test.YtejogobhnbjpdaaDoorU2
namespace Go.Proofs.YtejogobhnbjpdaaDoor
set_option linter.unusedVariables false
set_option linter.unusedSimpArgs false
open Go.ChangeShapes Go.WideShapes Go.ChangeAt Go.RowKit

theorem own_setIn {w : World} {base : Nat} {e : TypeId} {sz g cap n : Nat} {xs : List Value} (h : w.ownsRow base e sz (.slice (some ⟨g, 0, none⟩) n cap) n xs) (j : Nat) (u : Value) :
    (w.setCell ⟨g, j, none⟩ u).ownsRow base e sz (.slice (some ⟨g, 0, none⟩) n cap) n (xs.set j u) := by
  refine ⟨by rw [List.length_set]; exact h.1, ?_⟩
  rcases h.2 with ⟨hv, _⟩ | ⟨g', cap', cur, hv, hb, hg, h1, h2, h3, h4⟩
  · cases hv
  · injection hv with hv1 hv2 hv3
    injection hv1 with hv1
    injection hv1 with hv4 hv5
    subst hv4; subst hv3
    refine .inr ⟨g, cap, cur.setIfInBounds j u, rfl, hb, block_set hg, h1, h2, by rw [Array.size_setIfInBounds]; exact h3, ?_⟩
    rw [← h4, Array.toList_setIfInBounds, List.take_set]
theorem LF_set2 (A R : List Im) (x : Im) (p : Nat) : (LF imV (A ++ x :: R)).set (A.length * 3 + 2) (.int .i64 p) = LF imV (A ++ (x.1, x.2.1, p) :: R) := by
  have hl := LF_len (fl := imV) (n := 3) A (fun y _ => imV_len y)
  have hc : ∀ y : Im, LF imV (y :: R) = imV y ++ LF imV R := fun y => by
    have := LF_app (fl := imV) [y] R
    rw [LF_one] at this
    exact this
  rw [LF_app, LF_app, List.set_append_right _ _ (by omega), hl, hc, hc, show A.length * 3 + 2 - A.length * 3 = 2 by omega]
  rfl
def shK (I : List Im) (k : Nat) : List Im := (I.take k).map (imSh 3) ++ I.drop k
theorem shK_zero (I : List Im) : shK I 0 = I := by simp [shK]
theorem shK_all (I : List Im) {k : Nat} (h : I.length ≤ k) : shK I k = I.map (imSh 3) := by
  unfold shK; rw [List.take_of_length_le h, List.drop_of_length_le h, List.append_nil]
theorem shK_len (I : List Im) (k : Nat) : (shK I k).length = I.length := by
  unfold shK
  rw [List.length_append, List.length_map, List.length_take, List.length_drop]; omega
theorem shK_get (I : List Im) {k : Nat} (h : k < I.length) : (shK I k)[k]? = some I[k] := by
  unfold shK
  rw [List.getElem?_append_right (by rw [List.length_map, List.length_take]; omega), List.length_map, List.length_take, Nat.min_eq_left (by omega), Nat.sub_self, List.getElem?_drop, Nat.add_zero, List.getElem?_eq_getElem h]
theorem shK_succ (I : List Im) {k : Nat} (h : k < I.length) : (LF imV (shK I k)).set (k * 3 + 2) (.int .i64 ((3 + I[k].2.2 : Nat) : Int)) = LF imV (shK I (k + 1)) := by
  have hl : ((I.take k).map (imSh 3)).length = k := by rw [List.length_map, List.length_take]; omega
  have e1 : shK I k = (I.take k).map (imSh 3) ++ I[k] :: I.drop (k + 1) := by unfold shK; rw [List.drop_eq_getElem_cons h]
  have e2 : shK I (k + 1) = (I.take k).map (imSh 3) ++ imSh 3 I[k] :: I.drop (k + 1) := by
    unfold shK
    rw [List.take_succ_eq_append_getElem h, List.map_append, List.append_assoc]
    rfl
  have := LF_set2 ((I.take k).map (imSh 3)) (I.drop (k + 1)) I[k] (3 + I[k].2.2)
  rw [hl] at this
  rw [e1, e2, this]
  rfl
theorem lat_set {w : World} {n c j : Nat} {u : Value} {X : Type} {fl : X → List Value} {v : Value} {l : List X} (h : LAt n fl w v l) (hn : 0 < l.length → v.ownBlock ≠ some c) : LAt n fl (w.setCell ⟨c, j, none⟩ u) v l := by
  refine ⟨h.1, ?_⟩
  rcases h.2 with h | ⟨b, off, cap, rfl, h2, h3, h4, h5⟩
  · exact .inl h
  · by_cases h0 : 0 < l.length
    case neg => exact .inl ⟨_, _, by rw [show l.length = 0 by omega], List.eq_nil_of_length_eq_zero (by omega)⟩
    have hbc : b ≠ c := fun e => hn h0 (by rw [e]; rfl)
    have hb : (w.setCell ⟨c, j, none⟩ u).heap[b]? = w.heap[b]? := by
      show (w.heap.modify c _)[b]? = _
      rw [Array.getElem?_modify, if_neg (fun e => hbc e.symm)]
    refine .inr ⟨b, off, cap, rfl, ?_, h3, h4, fun j x hx => ?_⟩
    · show b < (w.heap.modify c _).size
      rw [Array.size_modify]; exact h2
    · have := h5 j x hx
      rw [← this]
      simp only [World.cell?, hb]
def ImB3 (t : Im) : Prop := t.1.size ≤ 4194304 ∧ t.2.1.size ≤ 4194304 ∧ t.2.2 ≤ 4194307
/-- The law's world, k of the first header's places turned. -/
structure MkSt (w0 : World) (n1 n2 : Nat) (nm bd : ByteArray) (pi1 pe1 pi2 pe2 : Option Addr) (ci1 ce1 ci2 ce2 len el : Nat) (I I2 : List Im) (E : List ByteArray) (f a1 a2 : Nat) (k : Nat) (w : World) : Prop where
  x1 : w.heap[n1]? = some (.cells #[.string nm, .slice pi1 len ci1, .string bd, .slice pe1 el ce1, .int .i64 f, .int .i64 a1] 41 (0, 0))
  x2 : w.heap[n2]? = some (.cells #[.string nm, .slice pi2 len ci2, .string bd, .slice pe2 el ce2, .int .i64 f, .int .i64 a2] 41 (0, 0))
  o1 : w.ownsRow w0.heap.size 44 3 (.slice pi1 len ci1) len (LF imV (shK I k))
  e1 : LAt 1 strV w (.slice pe1 el ce1) E
  i2 : LAt 3 imV w (.slice pi2 len ci2) I2
  e2 : LAt 1 strV w (.slice pe2 el ce2) E
  d : ∀ g off, pi1 = some ⟨g, off, none⟩ → g ≠ n1 ∧ g ≠ n2 ∧ (Value.slice pe1 el ce1).ownBlock ≠ some g ∧ (Value.slice pi2 len ci2).ownBlock ≠ some g ∧ (Value.slice pe2 el ce2).ownBlock ≠ some g
  b : Below w0.heap.size w0 w
  n : w0.heap.size ≤ n1 ∧ n1 ≠ n2
  q : (0 < E.length → (Value.slice pe1 el ce1).ownBlock ≠ some n1) ∧ (0 < I2.length → (Value.slice pi2 len ci2).ownBlock ≠ some n1) ∧ (0 < E.length → (Value.slice pe2 el ce2).ownBlock ≠ some n1)
theorem set_other {w : World} {g n : Nat} {j : Nat} {u : Value} (h : g ≠ n) : (w.setCell ⟨g, j, none⟩ u).heap[n]? = w.heap[n]? := by
  show (w.heap.modify g _)[n]? = _
  rw [Array.getElem?_modify, if_neg h]
section
variable {w0 : World} {n1 n2 : Nat} {nm bd : ByteArray} {pi1 pe1 pi2 pe2 : Option Addr} {ci1 ce1 ci2 ce2 len el : Nat} {I I2 : List Im} {E : List ByteArray} {f a1 a2 a k : Nat} {w : World}
theorem MkSt.step
    (h : MkSt w0 n1 n2 nm bd pi1 pe1 pi2 pe2 ci1 ce1 ci2 ce2 len el I I2 E f a1 a2 k w) (hl : len = I.length) (hk : k < I.length) :
    ∃ g, pi1 = some ⟨g, 0, none⟩ ∧ w.cell? ⟨g, k * 3 + 2, none⟩ = some (.int .i64 (I[k].2.2 : Nat)) ∧ w.frozen? ⟨g, k * 3 + 2, none⟩ = false ∧ MkSt w0 n1 n2 nm bd pi1 pe1 pi2 pe2 ci1 ce1 ci2 ce2 len el I I2 E f a1 a2 (k + 1) (w.setCell ⟨g, k * 3 + 2, none⟩ (.int .i64 ((I[k].2.2 : Nat) + 3 : Int))) := by
  subst hl
  have hL : LAt 3 imV w (.slice pi1 I.length ci1) (shK I k) := by
    have ho := h.o1
    have hle := shK_len I k
    exact LAt.own (fun y _ => imV_len y) (by rw [hle]; exact ho)
  rcases h.o1.2 with ⟨hv, hn⟩ | ⟨g, cap, cur, hv, hb, hg, r1, r2, r3, r4⟩
  · exfalso; omega
  injection hv with hv1 hv2 hv3
  subst hv1; subst hv3
  obtain ⟨hgl, _, _, hc⟩ := im_cell hL (shK_get I hk)
  rw [Nat.zero_add] at hc
  obtain ⟨d1, d2, d3, d4, d5⟩ := h.d g 0 rfl
  have hso := shK_succ I hk
  have hcast : ((3 + I[k].2.2 : Nat) : Int) = ((I[k].2.2 : Nat) : Int) + 3 := by omega
  rw [hcast] at hso
  refine ⟨g, rfl, hc, block_free hg _, ⟨(set_other d1).trans h.x1, (set_other d2).trans h.x2, ?_, lat_set h.e1 (fun _ => d3), lat_set h.i2 (fun _ => d4), lat_set h.e2 (fun _ => d5), h.d, h.b.setCell (p := ⟨g, k * 3 + 2, none⟩) hb _, h.n, h.q⟩⟩
  have := own_setIn h.o1 (k * 3 + 2) (.int .i64 ((I[k].2.2 : Nat) + 3 : Int))
  rw [hso] at this
  exact this
/-- The first header's own place is turned. -/
theorem MkSt.store (h : MkSt w0 n1 n2 nm bd pi1 pe1 pi2 pe2 ci1 ce1 ci2 ce2 len el I I2 E f a a2 k w) (ha : a2 = 3 + a) : MkSt w0 n1 n2 nm bd pi1 pe1 pi2 pe2 ci1 ce1 ci2 ce2 len el I I2 E f a2 a2 k (w.setCell ⟨n1, 5, none⟩ (.int .i64 ((a : Int) + 3))) := by
  have hcast : ((a : Int) + 3) = ((a2 : Nat) : Int) := by omega
  rw [hcast]
  refine ⟨?_, (set_other h.n.2).trans h.x2, ownsRow_setCell_other h.o1 (fun e => ?_) _, lat_set h.e1 h.q.1, lat_set h.i2 h.q.2.1, lat_set h.e2 h.q.2.2, h.d, h.b.setCell (p := ⟨n1, 5, none⟩) h.n.1 _, h.n, h.q⟩
  · have := block_set (i := 5) (u := .int .i64 (a2 : Nat)) h.x1
    simpa using this
  · cases pi1 with
    | none => cases e
    | some p =>
      obtain ⟨g, off, far⟩ := p
      have e3 : g = n1 := Option.some.inj e
      rcases h.o1.2 with ⟨hv, _⟩ | ⟨g', cap, cur, hv, _⟩
      · cases hv
      · injection hv with hv1 _ _
        injection hv1 with hv1
        injection hv1 with hv4 hv5 hv6
        subst hv5; subst hv6
        exact (h.d g 0 rfl).1 e3
theorem mk_same (h : MkSt w0 n1 n2 nm bd pi1 pe1 pi2 pe2 ci1 ce1 ci2 ce2 I.length E.length I I2 E f a2 a2 I.length w) (hI : I2 = I.map (imSh 3)) (hB : ∀ t ∈ I2, ImB t) (hl : I.length ≤ 4194304) :
    Calls Tryd.prog 25 #[.agg #[.string nm, .slice pi1 I.length ci1, .string bd, .slice pe1 E.length ce1, .int .i64 f, .int .i64 a2], .agg #[.string nm, .slice pi2 I.length ci2, .string bd, .slice pe2 E.length ce2, .int .i64 f, .int .i64 a2]] w fun e w' => e = .returned (.bool true) ∧ Below w.heap.size w w' := by
  have ho := h.o1
  rw [shK_all I (Nat.le_refl _), ← hI] at ho
  have hl2 : I2.length = I.length := by rw [hI, List.length_map]
  rw [← hl2] at ho
  have hL := LAt.own (fun y _ => imV_len y) ho
  have hR := h.i2
  rw [← hl2] at hR ⊢
  refine (sameHdr_any ⟨nm, I2, bd, E, f, a2⟩ ⟨nm, I2, bd, E, f, a2⟩ _ _ w ⟨_, _, rfl, hL, h.e1⟩ ⟨_, _, rfl, hR, h.e2⟩ hB hB (by show I2.length ≤ _; omega) (by show I2.length ≤ _; omega)).mono ?_
  rintro e w' ⟨rfl, hB⟩
  refine ⟨?_, hB⟩
  congr 2
  exact decide_eq_true ⟨rfl, rfl, rfl, rfl, rfl, rfl⟩
theorem own_le {B B' : Nat} {e : TypeId} {n k : Nat} {v : Value} {xs : List Value} (h : w.ownsRow B e n v k xs) (hB : B' ≤ B) : w.ownsRow B' e n v k xs := by
  refine ⟨h.1, ?_⟩
  rcases h.2 with h | ⟨g, cap, cur, hv, hb, r⟩
  · exact .inl h
  · exact .inr ⟨g, cap, cur, hv, Nat.le_trans hB hb, r⟩
theorem MkSt.start {w1 w2 w3 : World} (hi1 : w2.ownsRow w1.heap.size 44 3 (.slice pi1 I.length ci1) I.length (LF imV I)) (he1 : LAt 1 strV w2 (.slice pe1 el ce1) E) (hi2 : LAt 3 imV w3 (.slice pi2 I.length ci2) I2) (he2 : LAt 1 strV w3 (.slice pe2 el ce2) E)
    (hb1 : ∀ g, (Value.slice pe1 el ce1).ownBlock = some g → w1.heap.size ≤ g) (hd1 : ∀ g, (Value.slice pi1 I.length ci1).ownBlock = some g → (Value.slice pe1 el ce1).ownBlock ≠ some g)
    (hg1 : ∀ g, (Value.slice pi1 I.length ci1).ownBlock = some g → w1.heap.size ≤ g ∧ g < w2.heap.size) (hg2 : ∀ g, (Value.slice pi2 I.length ci2).ownBlock = some g → w2.heap.size ≤ g ∧ g < w3.heap.size) (hb2 : ∀ g, (Value.slice pe2 el ce2).ownBlock = some g → w2.heap.size ≤ g)
    (hB2 : Below w0.heap.size w0 w2) (hB : Below w2.heap.size w2 w3) (hs1 : w0.heap.size ≤ w1.heap.size) (f a a2 : Nat) (nm bd : ByteArray) :
    MkSt w0 w3.heap.size (w3.heap.size + 1) nm bd pi1 pe1 pi2 pe2 ci1 ce1 ci2 ce2 I.length el I I2 E f a a2 0 ((w3.alloc (.cells #[.string nm, .slice pi1 I.length ci1, .string bd, .slice pe1 el ce1, .int .i64 f, .int .i64 a] 41)).alloc (.cells #[.string nm, .slice pi2 I.length ci2, .string bd, .slice pe2 el ce2, .int .i64 f, .int .i64 a2] 41)) := by
  have hs3 := hB.size
  have hs2 := hB2.size
  have lat_lt : ∀ {n : Nat} {X : Type} {fl : X → List Value} {w : World} {v : Value} {l : List X}, LAt n fl w v l → 0 < l.length → ∀ g, v.ownBlock = some g → g < w.heap.size := fun h h0 g hg => by
    rcases h.2 with ⟨p, cap, hv, rfl⟩ | ⟨b, off, cap, hv, hb, _⟩
    · cases h0
    · subst hv
      injection hg with hg
      have hg : b = g := hg
      omega
  generalize hA : Obj.cells #[.string nm, .slice pi1 I.length ci1, .string bd, .slice pe1 el ce1, .int .i64 f, .int .i64 a] 41 = A
  generalize hBb : Obj.cells #[.string nm, .slice pi2 I.length ci2, .string bd, .slice pe2 el ce2, .int .i64 f, .int .i64 a2] 41 = Bb
  have hsz : (w3.alloc A).heap.size = w3.heap.size + 1 := by simp
  have hB4 : Below w3.heap.size w3 ((w3.alloc A).alloc Bb) := ((Below.refl _ _).alloc (Nat.le_refl _) _).alloc (by simp) _
  have hBT := hB2.trans ((hB.trans (hB4.mono hs3)).mono hs2)
  refine ⟨?_, ?_, ?_, ?_, hi2.below hB4, he2.below hB4, ?_, hBT, ⟨by omega, by omega⟩, ?_⟩
  · rw [← hA]
    exact (heap_alloc_old _ _ (show w3.heap.size < _ from by rw [← hA] at hsz; rw [hsz]; omega)).trans (heap_alloc_new w3 _)
  · rw [← hBb]; exact new2 w3 A _
  · rw [shK_zero]
    exact own_le (gen_own_below (gen_own_below hi1 hB) hB4) hs1
  · exact (he1.below hB).below hB4
  · intro g off hp
    have h1 := hg1 g (by rw [hp]; rfl)
    refine ⟨by omega, by omega, hd1 g (by rw [hp]; rfl), fun h2 => ?_, fun h2 => ?_⟩
    · have := (hg2 g h2).1; omega
    · have := hb2 g h2; omega
  · exact ⟨fun h0 h2 => by have := lat_lt he1 h0 _ h2; omega, fun h0 h2 => by have := lat_lt hi2 h0 _ h2; omega, fun h0 h2 => by have := lat_lt he2 h0 _ h2; omega⟩
end
set_option maxRecDepth 100000 in
set_option maxHeartbeats 4000000 in
theorem marks_walk (s : ByteArray) (w : World) (hs0 : s.size ≤ 140737488351232) (hTab : Tabs w) : Calls Tryd.prog 10 #[.string s] w (LawEnd w) := by
  have HA := Lib.hid (alive12_any w hTab)
  have HT := Lib.hid hTab
  clear hTab
  by_cases hbig : 1024 < s.size
  · have hbI : (1024 : Int) < (s.size : Int) := by omega
    go_enter Tryd.func10, Tryd.ntmps10
    go_wp2_with fail
    refine HA.out.mono ?_
    rintro r w1 ⟨rfl, hB⟩
    have HB := Lib.hid hB
    clear hB
    go_wp2_with fail
    go_ret
    exact ⟨rfl, HB.out⟩
  have hbI : ¬ (1024 : Int) < (s.size : Int) := by omega
  by_cases hmk : Lib.hasPrefix s.data.toList [239, 187, 191] = true
  · have h3 : 3 ≤ s.size := by
      apply Classical.byContradiction
      intro h
      rw [pre_short h] at hmk
      cases hmk
    have h3I : (3 : Int) ≤ (s.size : Int) := by omega
    have he := (pre_of_ext h3).2 hmk
    have hke := str_lit (s.extract 0 3) #[239, 187, 191]
    rw [decide_eq_true he] at hke
    clear he hmk
    go_enter Tryd.func10, Tryd.ntmps10
    go_wp2_with fail
    refine HA.out.mono ?_
    rintro r w1 ⟨rfl, hB⟩
    have HB := Lib.hid hB
    clear hB
    go_wp2_with fail
    go_ret
    exact ⟨rfl, HB.out⟩
  rw [Bool.not_eq_true] at hmk
  have HX := Lib.hid (fun w1 (h : Below w.heap.size w w1) => parse_ent s w1 (by omega) (tabs_below HT.out h))
  have HY := Lib.hid (fun w1 (h : Below w.heap.size w w1) => parse_ent (mkB ++ s) w1 (by have := app_size mkB s; have h3 : mkB.size = 3 := rfl; omega) (tabs_below HT.out h))
  rw [parse_mk hmk (pre_of s (by omega))] at HY
  have h3f : s.size < 3 ∨ (3 ≤ s.size ∧ ((s.extract 0 3).toList == ([239, 187, 191] : List UInt8)) = false) := by
    rcases Nat.lt_or_ge s.size 3 with h | h
    · exact .inl h
    · refine .inr ⟨h, ?_⟩
      have hke := str_lit (s.extract 0 3) #[239, 187, 191]
      rw [hke]
      exact decide_eq_false (fun e => by rw [(pre_of_ext h).1 e] at hmk; cases hmk)
  clear hmk
  have hHB := parse_b s (by omega)
  have hh2 : ∃ h2, h2 = hdrSh (parseR s) := ⟨_, rfl⟩
  obtain ⟨h2, hh2⟩ := hh2
  rw [← hh2] at HY
  generalize parseR s = h at *
  obtain ⟨nm0, I, bd0, E0, f0, a⟩ := h
  obtain ⟨nm, I2, bd, E, f, a2⟩ := h2
  unfold hdrSh at hh2
  injection hh2 with q1 q2 q3 q4 q5 q6
  dsimp only at q1 q2 q3 q4 q5 q6
  subst q1 q3 q4 q5
  obtain ⟨hIm, hIl, hAt⟩ := hHB
  dsimp only at hIm hIl hAt
  have hl2 : I2.length = I.length := by rw [q2, List.length_map]
  have hIm2 : ∀ t ∈ I2, ImB t := fun t ht => by
    rw [q2] at ht
    obtain ⟨x, hx, rfl⟩ := List.mem_map.1 ht
    obtain ⟨h1, h2, h3⟩ := hIm x hx
    exact ⟨h1, h2, by show 3 + x.2.2 ≤ 8388608; omega⟩
  have Q2 := Lib.hid q2
  have Q6 := Lib.hid q6
  have HM := Lib.hid hIm2
  have hBI := Lib.hid (show ∀ i (h : i < I.length), I[i].2.2 ≤ 4194304 from fun i h => Nat.le_trans (hIm _ (List.getElem_mem h)).2.2 (by decide))
  have kf := int_eqb f 0
  clear q2 q6 hIm hIm2
  rcases h3f with h3 | ⟨h3, hke⟩
  · have h3I : ¬ (3 : Int) ≤ (s.size : Int) := by omega
    go_enter Tryd.func10, Tryd.ntmps10
    go_wp2_with fail
    refine HA.out.mono ?_
    rintro r w1 ⟨rfl, hB⟩
    have HB := Lib.hid hB
    clear hB
    go_wp2_with fail
    refine (HX.out _ HB.out).mono ?_
    rintro r w2 ⟨v2, rfl, ⟨iv1, ev1, rfl, hi1, he1, hb1, hd1⟩, hB⟩
    have HB2 := Lib.hid (HB.out.trans (hB.mono HB.out.size))
    have hs1 := HB.out.size
    have hs2 := hB.size
    clear hB
    go_wp2_with fail
    refine (HY.out _ HB2.out).mono ?_
    rintro r w3 ⟨v3, rfl, ⟨iv2, ev2, rfl, hi2, he2, hb2, hd2⟩, hB⟩
    dsimp only at hi1 he1 hi2 he2 hb1 hb2 hd1 hd2
    have hs3 := hB.size
    obtain ⟨pe1, ce1, rfl, _⟩ := lat_shape he1
    obtain ⟨pe2, ce2, rfl, _⟩ := lat_shape he2
    obtain ⟨pi1, ci1, rfl⟩ := own_slice' hi1
    obtain ⟨pi2, ci2, rfl⟩ := own_slice' hi2
    have hI2 := LAt.own (fun y _ => imV_len y) hi2
    have hg1 := fun g hg => hi1.lt g hg
    have hg2 := fun g hg => hi2.lt g hg
    have hel : E.length ≤ 9223372036854775807 := lat_len he2
    rw [hl2] at hI2 hg2
    have hst := MkSt.start (w0 := w) hi1 he1 hI2 he2 hb1 hd1 hg1 hg2 hb2 HB2.out hB hs1 f a a2 nm bd
    have HST := Lib.hid hst
    clear hi1 he1 hi2 he2 hb1 hb2 hd1 hd2 hI2 hg1 hg2 hst hB hs1 hs2 hs3 HB HB2
    dsimp only
    rw [hl2]
    go_upto_region 6 with fail
    generalize (w3.alloc (.cells #[.string nm, .slice pi1 I.length ci1, .string bd, .slice pe1 E.length ce1, .int .i64 f, .int .i64 a] 41)).alloc (.cells #[.string nm, .slice pi2 I.length ci2, .string bd, .slice pe2 E.length ce2, .int .i64 f, .int .i64 a2] 41) = w4 at *
    generalize w3.heap.size = n1 at *
    have hx1 := HST.out.x1
    have c4 := block_cell hx1 4
    have c5 := block_cell hx1 5
    have z5 := block_free hx1 5
    have c1 := block_cell hx1 1
    clear hx1
    by_cases hf : f = 0
    case neg =>
      rw [decide_eq_false hf] at kf
      have kfn := ne_of_eqb kf
      have HK := Lib.hid (HST.out.store (a2 := a2) (by rw [Q6.out, if_neg hf]))
      clear hf
      go_wp2_with fail
      generalize w4.setCell ⟨n1, 5, none⟩ (.int .i64 ((a : Int) + 3)) = w5 at *
      have c1' := block_cell HK.out.x1 1
      clear c4 c5 z5 c1
      go_wp2_with fail
      go_loopg [5, 36] I.length (fun g _ iv wr => ∃ k : Nat, k + g = I.length ∧ iv = .int .i64 k ∧ Hid (MkSt w n1 (n1 + 1) nm bd pi1 pe1 pi2 pe2 ci1 ce1 ci2 ce2 I.length E.length I I2 E f a2 a2 k wr))
      case atStart => exact ⟨0, by omega, rfl, HK⟩
      case round =>
        clear c1'
        obtain ⟨k, hkg, rfl, HR⟩ := hrel
        by_cases hlt : k < I.length
        · have hltI : (k : Int) < (I.length : Int) := by omega
          have cb1 := block_cell HR.out.x1 1
          obtain ⟨g, rfl, cc, cz, hn⟩ := HR.out.step rfl hlt
          have HN := Lib.hid hn
          have hat := hBI.out k hlt
          clear hn
          generalize I[k].2.2 = pl at *
          go_wp2_with fail
          go_roundg (gk - 1)
          case measure => omega
          case rel => exact ⟨k + 1, by omega, by go_num, HN⟩
        have hnI : ¬ (k : Int) < (I.length : Int) := by omega
        obtain rfl : k = I.length := by omega
        have hy1 := HR.out.x1
        have hy2 := HR.out.x2
        have d0 := block_cell hy1 0
        have d1 := block_cell hy1 1
        have d2 := block_cell hy1 2
        have d3 := block_cell hy1 3
        have d4 := block_cell hy1 4
        have d5 := block_cell hy1 5
        have e0 := block_cell hy2 0
        have e1 := block_cell hy2 1
        have e2 := block_cell hy2 2
        have e3 := block_cell hy2 3
        have e4 := block_cell hy2 4
        have e5 := block_cell hy2 5
        have HE := Lib.hid (mk_same HR.out Q2.out HM.out hIl)
        have HBR := Lib.hid HR.out.b
        clear hy1 hy2
        go_wp2_with fail
        refine HE.out.mono ?_
        rintro r w6 ⟨rfl, hB6⟩
        have HB6 := Lib.hid (HBR.out.trans (hB6.mono HBR.out.size))
        clear hB6
        go_wp2_with fail
        go_ret
        exact ⟨rfl, HB6.out⟩
    · rw [decide_eq_true hf] at kf
      have kfn := ne_of_eqb kf
      have ha : a2 = a := by rw [Q6.out, if_pos hf]
      have HK : Hid (MkSt w n1 (n1 + 1) nm bd pi1 pe1 pi2 pe2 ci1 ce1 ci2 ce2 I.length E.length I I2 E f a2 a2 0 w4) := Lib.hid (by have := HST.out; rw [← ha] at this; exact this)
      clear hf ha
      have c1' := c1
      go_wp2_with fail
      go_loopg [5, 36] I.length (fun g _ iv wr => ∃ k : Nat, k + g = I.length ∧ iv = .int .i64 k ∧ Hid (MkSt w n1 (n1 + 1) nm bd pi1 pe1 pi2 pe2 ci1 ce1 ci2 ce2 I.length E.length I I2 E f a2 a2 k wr))
      case atStart => exact ⟨0, by omega, rfl, HK⟩
      case round =>
        clear c1'
        obtain ⟨k, hkg, rfl, HR⟩ := hrel
        by_cases hlt : k < I.length
        · have hltI : (k : Int) < (I.length : Int) := by omega
          have cb1 := block_cell HR.out.x1 1
          obtain ⟨g, rfl, cc, cz, hn⟩ := HR.out.step rfl hlt
          have HN := Lib.hid hn
          have hat := hBI.out k hlt
          clear hn
          generalize I[k].2.2 = pl at *
          go_wp2_with fail
          go_roundg (gk - 1)
          case measure => omega
          case rel => exact ⟨k + 1, by omega, by go_num, HN⟩
        have hnI : ¬ (k : Int) < (I.length : Int) := by omega
        obtain rfl : k = I.length := by omega
        have hy1 := HR.out.x1
        have hy2 := HR.out.x2
        have d0 := block_cell hy1 0
        have d1 := block_cell hy1 1
        have d2 := block_cell hy1 2
        have d3 := block_cell hy1 3
        have d4 := block_cell hy1 4
        have d5 := block_cell hy1 5
        have e0 := block_cell hy2 0
        have e1 := block_cell hy2 1
        have e2 := block_cell hy2 2
        have e3 := block_cell hy2 3
        have e4 := block_cell hy2 4
        have e5 := block_cell hy2 5
        have HE := Lib.hid (mk_same HR.out Q2.out HM.out hIl)
        have HBR := Lib.hid HR.out.b
        clear hy1 hy2
        go_wp2_with fail
        refine HE.out.mono ?_
        rintro r w6 ⟨rfl, hB6⟩
        have HB6 := Lib.hid (HBR.out.trans (hB6.mono HBR.out.size))
        clear hB6
        go_wp2_with fail
        go_ret
        exact ⟨rfl, HB6.out⟩
  · have h3I : (3 : Int) ≤ (s.size : Int) := by omega
    go_enter Tryd.func10, Tryd.ntmps10
    go_wp2_with fail
    refine HA.out.mono ?_
    rintro r w1 ⟨rfl, hB⟩
    have HB := Lib.hid hB
    clear hB
    go_wp2_with fail
    refine (HX.out _ HB.out).mono ?_
    rintro r w2 ⟨v2, rfl, ⟨iv1, ev1, rfl, hi1, he1, hb1, hd1⟩, hB⟩
    have HB2 := Lib.hid (HB.out.trans (hB.mono HB.out.size))
    have hs1 := HB.out.size
    have hs2 := hB.size
    clear hB
    go_wp2_with fail
    refine (HY.out _ HB2.out).mono ?_
    rintro r w3 ⟨v3, rfl, ⟨iv2, ev2, rfl, hi2, he2, hb2, hd2⟩, hB⟩
    dsimp only at hi1 he1 hi2 he2 hb1 hb2 hd1 hd2
    have hs3 := hB.size
    obtain ⟨pe1, ce1, rfl, _⟩ := lat_shape he1
    obtain ⟨pe2, ce2, rfl, _⟩ := lat_shape he2
    obtain ⟨pi1, ci1, rfl⟩ := own_slice' hi1
    obtain ⟨pi2, ci2, rfl⟩ := own_slice' hi2
    have hI2 := LAt.own (fun y _ => imV_len y) hi2
    have hg1 := fun g hg => hi1.lt g hg
    have hg2 := fun g hg => hi2.lt g hg
    have hel : E.length ≤ 9223372036854775807 := lat_len he2
    rw [hl2] at hI2 hg2
    have hst := MkSt.start (w0 := w) hi1 he1 hI2 he2 hb1 hd1 hg1 hg2 hb2 HB2.out hB hs1 f a a2 nm bd
    have HST := Lib.hid hst
    clear hi1 he1 hi2 he2 hb1 hb2 hd1 hd2 hI2 hg1 hg2 hst hB hs1 hs2 hs3 HB HB2
    dsimp only
    rw [hl2]
    go_upto_region 6 with fail
    generalize (w3.alloc (.cells #[.string nm, .slice pi1 I.length ci1, .string bd, .slice pe1 E.length ce1, .int .i64 f, .int .i64 a] 41)).alloc (.cells #[.string nm, .slice pi2 I.length ci2, .string bd, .slice pe2 E.length ce2, .int .i64 f, .int .i64 a2] 41) = w4 at *
    generalize w3.heap.size = n1 at *
    have hx1 := HST.out.x1
    have c4 := block_cell hx1 4
    have c5 := block_cell hx1 5
    have z5 := block_free hx1 5
    have c1 := block_cell hx1 1
    clear hx1
    by_cases hf : f = 0
    case neg =>
      rw [decide_eq_false hf] at kf
      have kfn := ne_of_eqb kf
      have HK := Lib.hid (HST.out.store (a2 := a2) (by rw [Q6.out, if_neg hf]))
      clear hf
      go_wp2_with fail
      generalize w4.setCell ⟨n1, 5, none⟩ (.int .i64 ((a : Int) + 3)) = w5 at *
      have c1' := block_cell HK.out.x1 1
      clear c4 c5 z5 c1
      go_wp2_with fail
      go_loopg [5, 36] I.length (fun g _ iv wr => ∃ k : Nat, k + g = I.length ∧ iv = .int .i64 k ∧ Hid (MkSt w n1 (n1 + 1) nm bd pi1 pe1 pi2 pe2 ci1 ce1 ci2 ce2 I.length E.length I I2 E f a2 a2 k wr))
      case atStart => exact ⟨0, by omega, rfl, HK⟩
      case round =>
        clear c1'
        obtain ⟨k, hkg, rfl, HR⟩ := hrel
        by_cases hlt : k < I.length
        · have hltI : (k : Int) < (I.length : Int) := by omega
          have cb1 := block_cell HR.out.x1 1
          obtain ⟨g, rfl, cc, cz, hn⟩ := HR.out.step rfl hlt
          have HN := Lib.hid hn
          have hat := hBI.out k hlt
          clear hn
          generalize I[k].2.2 = pl at *
          go_wp2_with fail
          go_roundg (gk - 1)
          case measure => omega
          case rel => exact ⟨k + 1, by omega, by go_num, HN⟩
        have hnI : ¬ (k : Int) < (I.length : Int) := by omega
        obtain rfl : k = I.length := by omega
        have hy1 := HR.out.x1
        have hy2 := HR.out.x2
        have d0 := block_cell hy1 0
        have d1 := block_cell hy1 1
        have d2 := block_cell hy1 2
        have d3 := block_cell hy1 3
        have d4 := block_cell hy1 4
        have d5 := block_cell hy1 5
        have e0 := block_cell hy2 0
        have e1 := block_cell hy2 1
        have e2 := block_cell hy2 2
        have e3 := block_cell hy2 3
        have e4 := block_cell hy2 4
        have e5 := block_cell hy2 5
        have HE := Lib.hid (mk_same HR.out Q2.out HM.out hIl)
        have HBR := Lib.hid HR.out.b
        clear hy1 hy2
        go_wp2_with fail
        refine HE.out.mono ?_
        rintro r w6 ⟨rfl, hB6⟩
        have HB6 := Lib.hid (HBR.out.trans (hB6.mono HBR.out.size))
        clear hB6
        go_wp2_with fail
        go_ret
        exact ⟨rfl, HB6.out⟩
    · rw [decide_eq_true hf] at kf
      have kfn := ne_of_eqb kf
      have ha : a2 = a := by rw [Q6.out, if_pos hf]
      have HK : Hid (MkSt w n1 (n1 + 1) nm bd pi1 pe1 pi2 pe2 ci1 ce1 ci2 ce2 I.length E.length I I2 E f a2 a2 0 w4) := Lib.hid (by have := HST.out; rw [← ha] at this; exact this)
      clear hf ha
      have c1' := c1
      go_wp2_with fail
      go_loopg [5, 36] I.length (fun g _ iv wr => ∃ k : Nat, k + g = I.length ∧ iv = .int .i64 k ∧ Hid (MkSt w n1 (n1 + 1) nm bd pi1 pe1 pi2 pe2 ci1 ce1 ci2 ce2 I.length E.length I I2 E f a2 a2 k wr))
      case atStart => exact ⟨0, by omega, rfl, HK⟩
      case round =>
        clear c1'
        obtain ⟨k, hkg, rfl, HR⟩ := hrel
        by_cases hlt : k < I.length
        · have hltI : (k : Int) < (I.length : Int) := by omega
          have cb1 := block_cell HR.out.x1 1
          obtain ⟨g, rfl, cc, cz, hn⟩ := HR.out.step rfl hlt
          have HN := Lib.hid hn
          have hat := hBI.out k hlt
          clear hn
          generalize I[k].2.2 = pl at *
          go_wp2_with fail
          go_roundg (gk - 1)
          case measure => omega
          case rel => exact ⟨k + 1, by omega, by go_num, HN⟩
        have hnI : ¬ (k : Int) < (I.length : Int) := by omega
        obtain rfl : k = I.length := by omega
        have hy1 := HR.out.x1
        have hy2 := HR.out.x2
        have d0 := block_cell hy1 0
        have d1 := block_cell hy1 1
        have d2 := block_cell hy1 2
        have d3 := block_cell hy1 3
        have d4 := block_cell hy1 4
        have d5 := block_cell hy1 5
        have e0 := block_cell hy2 0
        have e1 := block_cell hy2 1
        have e2 := block_cell hy2 2
        have e3 := block_cell hy2 3
        have e4 := block_cell hy2 4
        have e5 := block_cell hy2 5
        have HE := Lib.hid (mk_same HR.out Q2.out HM.out hIl)
        have HBR := Lib.hid HR.out.b
        clear hy1 hy2
        go_wp2_with fail
        refine HE.out.mono ?_
        rintro r w6 ⟨rfl, hB6⟩
        have HB6 := Lib.hid (HBR.out.trans (hB6.mono HBR.out.size))
        clear hB6
        go_wp2_with fail
        go_ret
        exact ⟨rfl, HB6.out⟩
end Go.Proofs.YtejogobhnbjpdaaDoor
