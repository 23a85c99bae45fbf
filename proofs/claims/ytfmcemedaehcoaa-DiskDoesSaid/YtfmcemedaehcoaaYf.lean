/- Walks: the statement DiskTwins. -/
import Derived.Test.YtfmcemedaehcoaaYe
namespace Go.Proofs.Ytfmcemedaehcoaa
set_option linter.unusedVariables false
set_option linter.unusedSimpArgs false
open Go.ChangeShapes Go.WideShapes Go.ChangeAt Go.RowKit Go.ChangeMaps

open Go.Sort
def nsL (A : List Ab) : List (List UInt8) := (A.map fun y => nmL y.1).mergeSort fun x y => decide (x ≤ y)
def nsOf (A : List Ab) : List ByteArray := (nsL A).map fun l => ⟨l.toArray⟩
theorem sort_perm {a b : List (List UInt8)} (h : a.Perm b) : (a.mergeSort fun x y => decide (x ≤ y)) = b.mergeSort fun x y => decide (x ≤ y) := by
  have hs : ∀ l : List (List UInt8), (l.mergeSort fun x y => decide (x ≤ y)).Pairwise (fun x y => decide (x ≤ y) = true) := fun l => List.pairwise_mergeSort (fun a b c h1 h2 => by
      rw [decide_eq_true_eq] at *
      exact Std.le_trans h1 h2) (fun a b => by
      rw [Bool.or_eq_true, decide_eq_true_eq, decide_eq_true_eq]
      exact Std.le_total) _
  exact List.Perm.eq_of_pairwise (le := fun x y => decide (x ≤ y) = true) (fun a b _ _ hab hba => Std.le_antisymm (by simpa using hab) (by simpa using hba)) (hs a) (hs b) ((List.mergeSort_perm _ _).trans (h.trans (List.mergeSort_perm _ _).symm))
theorem enc_map (l : List (List UInt8)) : l.map encStr = (l.map fun x => (⟨x.toArray⟩ : ByteArray)).map Value.string := by
  rw [List.map_map]; rfl
theorem LF_str (ns : List ByteArray) : LF sV ns = ns.map Value.string := by
  induction ns with
  | nil => rfl
  | cons a r ih => rw [List.map_cons, ← ih]; rfl
theorem Agr.ns {A A' : List Ab} (h : Agr A A') : nsOf A = A'.map (·.1) := by
  unfold nsOf nsL
  rw [h.names (List.Perm.refl _), List.map_map]
  refine List.map_congr_left fun y _ => ?_
  show (⟨(y.1.data.toList).toArray⟩ : ByteArray) = y.1
  exact ByteArray.ext (by simp)
structure NamesS (ns : List ByteArray) (w : World) (e : Ending) (w' : World) : Prop where
  e : ∃ v, e = .returned v ∧ Strs w' v ns
  b : Below w.heap.size w w'
theorem cNamesS {T : Nat → Prop} {b : Nat} {h : Hd} {A : List Ab} {w : World} (d : DV T b h A w) (hn : A.length ≤ 1048576) : Calls Try.prog 20 #[.pointer (some ⟨b, 0, none⟩)] w (NamesS (nsOf A) w) :=
  (cNames d hn).mono fun e w' r => by
    obtain ⟨v, ss, h1, h2, h3⟩ := r.e
    refine ⟨⟨v, h1, ?_⟩, r.b⟩
    rw [sort_perm h2, enc_map] at h3
    exact Strs.ofRow h3
theorem rNamesS {T : Nat → Prop} {b : Nat} {h : Hd} {A A0 : List Ab} {w : World} (d : RV T b h A w) (hn : A.length ≤ 1048576) (ha : Agr A0 A) : Calls Try.prog 21 #[.pointer (some ⟨b, 0, none⟩)] w (NamesS (nsOf A0) w) :=
  (namesR_any d.rd hn).mono fun e w' r => by
    obtain ⟨v, h1, h2, h3⟩ := r
    refine ⟨⟨v, h1, ?_⟩, h3⟩
    rw [ha.ns]
    rw [LF_str] at h2
    exact Strs.ofRow h2
theorem Strs.shape {w : World} {v : Value} {ss : List ByteArray} (h : Strs w v ss) : ∃ p c, v = .slice p ss.length c := by
  rcases h with ⟨⟨p, cap, rfl⟩, rfl⟩ | ⟨b, off, cap, rfl, _⟩
  · exact ⟨p, cap, rfl⟩
  · exact ⟨_, _, rfl⟩
theorem same_ns {w : World} {v u : Value} {ns : List ByteArray} (hv : Strs w v ns) (hu : Strs w u ns) : Calls Try.prog 19 #[v, u] w fun e w' => e = .returned (.bool true) ∧ Below w.heap.size w w' :=
  (same_rows v u ns ns w hv hu rfl).mono fun e w' ⟨h1, k, h2⟩ => by
    subst h2
    exact ⟨by rw [h1]; simp, below_drewN (Below.refl _ _) k⟩
theorem PairT.kept {base : Nat} {T1 T2 U : Nat → Prop} {d m : Nat} {h h' : Hd} {A A' : List Ab} {w w' : World} (p : PairT base T1 T2 d m h h' A A' w) (k : Kept U w w') (hd : ∀ k, T1 k ∨ T2 k → ¬ U k) : PairT base T1 T2 d m h h' A A' w' :=
  ⟨p.c.kept k (fun j hj => hd j (.inl hj)), p.r.kept k (fun j hj => (p.b2 j hj).2) (fun j hj => hd j (.inr hj)), fun j hj => ⟨(p.b1 j hj).1, Nat.lt_of_lt_of_le (p.b1 j hj).2 k.size⟩, fun j hj => ⟨(p.b2 j hj).1, Nat.lt_of_lt_of_le (p.b2 j hj).2 k.size⟩, p.dj, Nat.le_trans p.bs k.size⟩
theorem rel_new (room : Int) : Rel 0 (newH room) (newH room) [] [] := by
  unfold newH
  exact ⟨⟨rfl, by show 0 ≤ min (max room 0) 1048576; omega, by show min (max room 0) 1048576 ≤ 1048576; omega⟩, ⟨rfl, by show (0 : Int) ≤ 0; omega, by show (0 : Int) ≤ ((0 : Nat) : Int); omega⟩, rfl, ⟨rfl, by show (0 : Int) ≤ 0; omega, by show (0 : Int) ≤ 9223372036854775807; omega⟩, fun _ => ⟨rfl, rfl⟩, ⟨by show (-9223372036854775808 : Int) ≤ 0 ∧ (0 : Int) ≤ 9223372036854775807; omega, by show (-9223372036854775808 : Int) ≤ 0 ∧ (0 : Int) ≤ 9223372036854775807; omega⟩, Agr.nil, by show ((0 : Nat) : Int) ≤ min (max room 0) 1048576; omega, by simp, by simp, by simp⟩
/-- A device of each kind that were just made. -/
theorem pair_new {base : Nat} {d m : Nat} {room : Int} {w w1 w2 : World} (c : DV (fun k => w.heap.size ≤ k ∧ k < w1.heap.size) d (newH room) [] w1) (r : Rd (fun _ => False) w1 m (newH room) [] w2) (hb : base ≤ w.heap.size) (h1 : Below w.heap.size w w1) :
    PairT base (fun k => w.heap.size ≤ k ∧ k < w1.heap.size) (fun k => w1.heap.size ≤ k ∧ k < w2.heap.size) d m (newH room) (newH room) [] [] w2 := by
  have hs := h1.size
  have hk : Below w1.heap.size w1 w2 := ⟨r.k.os, r.k.tape, r.k.output, r.k.size, fun k hk => r.k.block k hk (fun x => x)⟩
  refine ⟨c.below hk, r.rv.mono (fun k hk => ?_), fun k hk => ⟨by omega, Nat.lt_of_lt_of_le hk.2 r.k.size⟩, fun k hk => ⟨by omega, hk.2⟩, fun k h1 h2 => by omega, by have := r.k.size; omega⟩
  rcases hk with hk | hk
  · exact absurd hk (fun x => x)
  · exact hk
theorem below_of_rd {m : Nat} {h : Hd} {A : List Ab} {w1 w2 : World} (r : Rd (fun _ => False) w1 m h A w2) : Below w1.heap.size w1 w2 := ⟨r.k.os, r.k.tape, r.k.output, r.k.size, fun k hk => r.k.block k hk (fun x => x)⟩
theorem ClOk.of {W w : World} {U : Nat → Prop} {c : Cl} (hc : CIn W c) (hs : c.a.size ≤ 16384 ∧ c.bs.length ≤ 16384) (hB : Below W.heap.size W w) (hU : ∀ k, U k → W.heap.size ≤ k ∧ k < w.heap.size) : ClOk U w c :=
  ⟨hc.n, hc.k, hs.1, (byt_arg (n := w.heap.size) hc.b.lat hB).sub (fun k hk => hU k hk), hs.2⟩
theorem wpList_load_mid_g {P : Program} {ops : Array Oper} {rest : List Oper} {op : Oper} {a : Act} {w : World} {Q : Exit → Act → World → Prop} (hw : Region.wanted op (yielded ops a.tmps) = true) (ty : TypeId) (x : Operand) (ho : op.op = .load ty x)
    (b o : Nat) (hx : a.eval x = .pointer (some ⟨b, o, none⟩)) (cs : List Value) (d : TypeDesc) (hc : w.rangeAt b o cs)
    (hu : P.underlying ty = some d) (hd : d.isRow = true) (hi : (P.info? ty).map (·.size) = some cs.length)
    (h : wpList P ops Q rest (a.put op.dst (.agg cs.toArray)) w) : wpList P ops Q (op :: rest) a w :=
  Go.BigFrame.wpList_want hw fun _ hK => wp_load_mid ty x ho b o hx cs d hc hu hd hi (hK _ _ h)
theorem CIn.below {W W' : World} {c : Cl} (h : CIn W c) (hB : Below W.heap.size W W') : CIn W' c := by
  refine ⟨h.n, h.k, h.a, h.z, ?_, h.l⟩
  rcases h.b with hb | hb | ⟨b, off, cap, h1, h2, h3, h4, h5⟩
  · exact .inl hb
  · exact .inr (.inl hb)
  · exact .inr (.inr ⟨b, off, cap, h1, h2, h3, Nat.lt_of_lt_of_le h4 hB.size, fun i hi => (hB.cell (p := ⟨b, off + i, none⟩) h4).trans (h5 i hi)⟩)
structure Quad (room : Int) (B0 : Nat) (T1 T2 T3 T4 T5 : Nat → Prop) (a b c d s : Nat) (h h1 h2 : Hd) (A A1 A2 : List Ab) (w : World) : Prop where
  p1 : PairT B0 T1 T2 a b h h1 A A1 w
  p2 : PairT B0 T3 T4 c d h h2 A A2 w
  st : DV T5 s (newH room) [] w
  b5 : ∀ k, T5 k → k < w.heap.size
  dj : ∀ k, T1 k ∨ T2 k → ¬ (T3 k ∨ T4 k)
  d5 : ∀ k, T5 k → ¬ (T1 k ∨ T2 k) ∧ ¬ (T3 k ∨ T4 k)
set_option maxRecDepth 100000 in
set_option maxHeartbeats 4000000 in
theorem twins_small (room : Int) (v : Value) (cs : List Cl) (w : World) (hl : LAt 7 clV w v cs) (hc : ∀ c ∈ cs, CIn w c) : Calls Try.prog 8 #[.int .i64 room, v] w (LawEnd w) := by
  obtain ⟨p, cp, rfl⟩ := hl.shapeC
  have hlen := hl.lenC
  unfold maxLen at hlen
  have HL := Lib.hid hl
  have HC := Lib.hid hc
  have HA := Lib.hid (alive_any w)
  clear hl hc
  go_enter Try.func8, Try.ntmps8
  go_wp2_with fail
  refine HA.out.mono ?_
  rintro e wa ⟨rfl, hb⟩
  have Ba := Lib.hid hb
  have HG := Lib.hid (great_any (HL.out.below hb) (fun c hc => (HC.out c hc).below hb))
  clear hb
  go_wp2_with fail
  refine HG.out.mono ?_
  intro e wb h9
  obtain ⟨g, rfl, hsm⟩ := h9.e
  have Bb := Lib.hid (Ba.out.trans (h9.b.mono Ba.out.size))
  clear h9
  cases g
  · have HSm := Lib.hid (hsm rfl)
    clear hsm
    go_wp2_with fail
    refine (cNew room _).mono ?_
    rintro e w1 ⟨rfl, d1, b1⟩
    have D1 := Lib.hid d1
    have B1 := Lib.hid b1
    clear d1 b1
    go_wp2_with fail
    refine (newR_any room _).mono ?_
    rintro e w2 ⟨rfl, d2⟩
    have P1 := Lib.hid (pair_new (base := wb.heap.size) D1.out d2 (Nat.le_refl _) B1.out)
    have B2 := Lib.hid (below_of_rd d2)
    clear d2
    go_wp2_with fail
    refine (cNew room _).mono ?_
    rintro e w3 ⟨rfl, d3, b3⟩
    have D3 := Lib.hid d3
    have B3 := Lib.hid b3
    clear d3 b3
    go_wp2_with fail
    refine (cNew room _).mono ?_
    rintro e w4 ⟨rfl, d4, b4⟩
    have D4 := Lib.hid d4
    have B4 := Lib.hid b4
    clear d4 b4
    go_wp2_with fail
    refine (newR_any room _).mono ?_
    rintro e w5 ⟨rfl, d5⟩
    have hz1 := B1.out.size
    have hz2 := B2.out.size
    have hz3 := B3.out.size
    have hz4 := B4.out.size
    have P2 := Lib.hid (pair_new (base := wb.heap.size) D4.out d5 (by omega) B4.out)
    have B5 := Lib.hid (below_of_rd d5)
    have hz5 := B5.out.size
    have BX := Lib.hid (((((B1.out.trans (B2.out.mono hz1)).trans (B3.out.mono (by omega))).trans (B4.out.mono (by omega))).trans (B5.out.mono (by omega))))
    have HQ : Hid (Quad room wb.heap.size (fun k => wb.heap.size ≤ k ∧ k < w1.heap.size) (fun k => w1.heap.size ≤ k ∧ k < w2.heap.size) (fun k => w3.heap.size ≤ k ∧ k < w4.heap.size) (fun k => w4.heap.size ≤ k ∧ k < w5.heap.size) (fun k => w2.heap.size ≤ k ∧ k < w3.heap.size) (wb.heap.size + 1) w1.heap.size (w3.heap.size + 1) w4.heap.size (w2.heap.size + 1) (newH room) (newH room) (newH room) [] [] [] w5) :=
      Lib.hid ⟨P1.out.below ((B3.out.trans (B4.out.mono hz3)).trans (B5.out.mono (by omega))), P2.out, D3.out.below (B4.out.trans (B5.out.mono hz4)), fun k hk => by omega, fun k h1 h2 => by omega, fun k hk => ⟨fun h => by omega, fun h => by omega⟩⟩
    clear d5 hz1 hz2 hz3 hz4 hz5 D1 D3 D4 P1 P2 B1 B2 B3 B4 B5
    generalize wb.heap.size + 1 = a at *
    generalize w1.heap.size = b at *
    generalize w3.heap.size + 1 = c at *
    generalize w4.heap.size = d at *
    generalize w2.heap.size + 1 = s at *
    go_wp2_with fail
    go_loopg [28] cs.length (fun gg vi wr => ∃ (i : Nat) (T1 T2 T3 T4 T5 : Nat → Prop) (h h1 h2 : Hd) (A A1 A2 : List Ab), vi = .int .i64 i ∧ i + gg = cs.length ∧ Quad room wb.heap.size T1 T2 T3 T4 T5 a b c d s h h1 h2 A A1 A2 wr ∧ Rel i h h1 A A1 ∧ Rel i h h2 A A2 ∧ Below wb.heap.size wb wr)
    case atStart => exact ⟨0, _, _, _, _, _, _, _, _, _, _, _, rfl, by omega, HQ.out, rel_new room, rel_new room, BX.out⟩
    case round =>
      obtain ⟨i, T1, T2, T3, T4, T5, h, h1, h2, A, A1, A2, rfl, hig, hq, hr1, hr2, hB⟩ := hrel
      by_cases hlt : i < cs.length
      · have hltI : (i : Int) < (cs.length : Nat) := by omega
        obtain ⟨g, o, c', he, hg, hcc, hrg⟩ := (HL.out.below Bb.out).call hlt
        injection he with he1 _ he2
        subst he1 he2
        have hi80 : i ≤ 1000 := by have := HSm.out.1; omega
        have Hrg := Lib.hid (range_below hrg hB hg)
        have Hc := Lib.hid ((HC.out _ (List.getElem_mem hlt)).below Bb.out)
        have Hs := Lib.hid (HSm.out.2 _ (List.getElem_mem hlt))
        obtain ⟨c0, hce⟩ : ∃ c0, c0 = cs[i] := ⟨_, rfl⟩
        rw [← hce] at Hrg Hc Hs
        have HB := Lib.hid hB
        have HQ2 := Lib.hid hq
        have HR1 := Lib.hid hr1
        have HR2 := Lib.hid hr2
        clear hrg hB hce hq hr1 hr2 hcc
        go_wp2_with (first | (refine wpList_load_mid rfl 31 (.tmp 30) rfl g (o + i * 7) rfl (clV c0) _ Hrg.out Try.underlying31 rfl (clV_info c0) ?_) | (refine wpList_store_rowTo rfl 31 (.tmp 11) (.tmp 31) rfl rfl wr.heap.size (clV c0).toArray rfl rfl 31 _ (heap_alloc_new wr _) (clV_size c0) rfl (clV_one Hc.out) ?_; refine box_absC (boxC_made wr _ c0) ?_; intro wx hbx; have HBx := Lib.hid hbx; have Hrx : Hid (wx.rangeAt wr.heap.size 0 (clV c0)) := Lib.hid (fun j q hq => by rw [Nat.zero_add, block_cell HBx.out.h]; simpa using hq); clear hbx) | (refine wpList_load_mid rfl 31 (.tmp 11) rfl wr.heap.size 0 rfl (clV c0) _ Hrx.out Try.underlying31 rfl (clV_info c0) ?_))
        have hbB : ¬ (T1 wr.heap.size ∨ T2 wr.heap.size) ∧ ¬ (T3 wr.heap.size ∨ T4 wr.heap.size) := ⟨fun hk => by rcases hk with hk | hk; exact absurd (HQ2.out.p1.b1 _ hk).2 (by omega); exact absurd (HQ2.out.p1.b2 _ hk).2 (by omega), fun hk => by rcases hk with hk | hk; exact absurd (HQ2.out.p2.b1 _ hk).2 (by omega); exact absurd (HQ2.out.p2.b2 _ hk).2 (by omega)⟩
        have Hnb := Lib.hid hbB
        have HBx2 := Lib.hid (HB.out.trans (HBx.out.b.mono HB.out.size))
        clear hbB
        refine (does_any (HQ2.out.p1.below HBx.out.b) HR1.out hi80 c0 (ClOk.of Hc.out Hs.out HBx2.out (fun k hk => by rcases hk with hk | hk; exact ⟨(HQ2.out.p1.b1 k hk).1, Nat.lt_of_lt_of_le (HQ2.out.p1.b1 k hk).2 HBx.out.b.size⟩; exact ⟨(HQ2.out.p1.b2 k hk).1, Nat.lt_of_lt_of_le (HQ2.out.p1.b2 k hk).2 HBx.out.b.size⟩))).mono ?_
        rintro e w6 ⟨rfl, T1', T2', h1', A1', q1, q2, q3, q4, q5⟩
        have Q1 := Lib.hid q1
        have Q2 := Lib.hid q2
        have Q3 := Lib.hid q3
        have Q4 := Lib.hid q4
        have Q5 := Lib.hid q5
        have hb6 := (q3.block wr.heap.size (lt_of_block HBx.out.h) Hnb.out.1).trans HBx.out.h
        have Hb6 := Lib.hid hb6
        have Hr6 : Hid (w6.rangeAt wr.heap.size 0 (clV c0)) := Lib.hid (fun j q hq => by rw [Nat.zero_add, block_cell Hb6.out]; simpa using hq)
        have P26 := Lib.hid ((HQ2.out.p2.below HBx.out.b).kept q3 (fun k hk hk1 => HQ2.out.dj k hk1 hk))
        have S6 := Lib.hid ((HQ2.out.st.below HBx.out.b).kept q3 (fun k hk => (HQ2.out.d5 k hk).1))
        have B6 := Lib.hid (HBx2.out.trans (q3.below (fun k hk => by rcases hk with hk | hk; exact (HQ2.out.p1.b1 k hk).1; exact (HQ2.out.p1.b2 k hk).1) HBx2.out.size))
        have Z6 := Lib.hid q3.size
        clear q1 q2 q3 q4 q5 hb6
        go_wp2_with (first | (refine wpList_load_mid_g (by simp [Region.wanted, yielded, Act.put]) 31 (.tmp 11) rfl wr.heap.size 0 rfl (clV c0) _ Hr6.out Try.underlying31 rfl (clV_info c0) ?_))
        refine (does_any P26.out HR2.out hi80 c0 (ClOk.of Hc.out Hs.out B6.out (fun k hk => by rcases hk with hk | hk; exact P26.out.b1 k hk; exact P26.out.b2 k hk))).mono ?_
        rintro e w7 ⟨rfl, T3', T4', h2', A2', q1, q2, q3, q4, q5⟩
        have HQ7 : Hid (Quad room wb.heap.size T1' T2' T3' T4' T5 a b c d s (goC c0 h A).1 h1' h2' (goC c0 h A).2 A1' A2' w7) := Lib.hid (by
          have z0 := HBx.out.b.size
          have z6 := Z6.out
          have hx1 : ∀ k, T1' k ∨ T2' k → (T1 k ∨ T2 k) ∨ wx.heap.size ≤ k := fun k hk => by
            rcases hk with hk | hk
            · exact (Q4.out k hk).imp .inl id
            · exact (Q5.out k hk).imp .inr id
          have hx2 : ∀ k, T3' k ∨ T4' k → (T3 k ∨ T4 k) ∨ w6.heap.size ≤ k := fun k hk => by
            rcases hk with hk | hk
            · exact (q4 k hk).imp .inl id
            · exact (q5 k hk).imp .inr id
          have hy1 : ∀ k, T1' k ∨ T2' k → k < w6.heap.size := fun k hk => by
            rcases hk with hk | hk
            · exact (Q1.out.b1 k hk).2
            · exact (Q1.out.b2 k hk).2
          have hy2 : ∀ k, T3 k ∨ T4 k → k < wr.heap.size := fun k hk => by
            rcases hk with hk | hk
            · exact (HQ2.out.p2.b1 k hk).2
            · exact (HQ2.out.p2.b2 k hk).2
          have hd1 : ∀ k, T1' k ∨ T2' k → ¬ (T3 k ∨ T4 k) := fun k hk hk2 => by
            rcases hx1 k hk with h | h
            · exact HQ2.out.dj k h hk2
            · have := hy2 k hk2; omega
          refine ⟨Q1.out.kept q3 (fun k hk hk2 => hd1 k hk hk2), q1, S6.out.kept q3 (fun k hk => (HQ2.out.d5 k hk).2), fun k hk => ?_, fun k hk hk2 => ?_, fun k hk => ⟨fun hk2 => ?_, fun hk2 => ?_⟩⟩
          · have := HQ2.out.b5 k hk; have := q3.size; omega
          · rcases hx2 k hk2 with h | h
            · exact hd1 k hk h
            · have := hy1 k hk; omega
          · rcases hx1 k hk2 with h | h
            · exact (HQ2.out.d5 k hk).1 h
            · have := HQ2.out.b5 k hk; omega
          · rcases hx2 k hk2 with h | h
            · exact (HQ2.out.d5 k hk).2 h
            · have := HQ2.out.b5 k hk; omega)
        have R1 := Q2
        have R2 := Lib.hid q2
        have B7 := Lib.hid (B6.out.trans (q3.below (fun k hk => by rcases hk with hk | hk; exact (P26.out.b1 k hk).1; exact (P26.out.b2 k hk).1) B6.out.size))
        obtain ⟨o1, o2, o3, _⟩ := R1.out.ok (i := i + 1) (by have := HSm.out.1; omega)
        clear q1 q2 q3 q4 q5 Q1 Q3 Q4 Q5 P26 S6 HR1 HR2 HQ2
        generalize (goC c0 h A).1 = hn at *
        generalize (goC c0 h A).2 = An at *
        go_wp2_with fail
        refine (cActs HQ7.out.p1.c).mono ?_
        rintro e w8 ⟨rfl, rfl⟩
        go_wp2_with fail
        refine (cActs HQ7.out.p2.c).mono ?_
        rintro e w8 ⟨rfl, rfl⟩
        go_wp2_with fail
        refine (cFree HQ7.out.p1.c o1 o2).mono ?_
        rintro e w8 ⟨rfl, hb8⟩
        have B8 := Lib.hid hb8
        clear hb8
        go_wp2_with fail
        refine (cFree (HQ7.out.p2.c.below B8.out) o1 o2).mono ?_
        rintro e w9 ⟨rfl, hb9⟩
        have B9 := Lib.hid (B8.out.trans (hb9.mono B8.out.size))
        clear hb9
        generalize hn.room - (totA An : Nat) = fr at *
        go_wp2_with fail
        refine (cNamesS (HQ7.out.p1.c.below B9.out) o3).mono ?_
        intro e w10 h9
        obtain ⟨v1, rfl, hs1⟩ := h9.e
        have B10 := Lib.hid (B9.out.trans (h9.b.mono B9.out.size))
        have HS1 := Lib.hid hs1
        clear h9 hs1
        go_wp2_with fail
        refine (cNamesS (HQ7.out.p2.c.below B10.out) o3).mono ?_
        intro e w11 h9
        obtain ⟨v2, rfl, hs2⟩ := h9.e
        have B11 := Lib.hid (B10.out.trans (h9.b.mono B10.out.size))
        have HSm2 := Lib.hid (same_ns (HS1.out.below h9.b) hs2)
        clear h9 hs2
        go_wp2_with fail
        refine HSm2.out.mono ?_
        rintro e w12 ⟨rfl, hb12⟩
        have B12 := Lib.hid (B11.out.trans (hb12.mono B11.out.size))
        clear hb12
        go_wp2_with fail
        go_roundg (gk - 1)
        case measure => omega
        case rel => exact ⟨i + 1, T1', T2', T3', T4', T5, hn, h1', h2', An, A1', A2', by go_num, by omega, ⟨HQ7.out.p1.below B12.out, HQ7.out.p2.below B12.out, HQ7.out.st.below B12.out, fun k hk => Nat.lt_of_lt_of_le (HQ7.out.b5 k hk) B12.out.size, HQ7.out.dj, HQ7.out.d5⟩, R1.out, R2.out, B7.out.trans (B12.out.mono B7.out.size)⟩
      · have hltI : ¬ (i : Int) < (cs.length : Nat) := by omega
        have HQ2 := Lib.hid hq
        have HB := Lib.hid hB
        clear hq hB hr1 hr2
        go_wp2_with fail
        refine (cActs HQ2.out.st).mono ?_
        rintro e w6 ⟨rfl, rfl⟩
        rw [show (newH room).acts = 0 from rfl]
        go_wp2_with fail
        refine (cNamesS HQ2.out.st (by simp)).mono ?_
        intro e w7 h9
        obtain ⟨v1, rfl, hs1⟩ := h9.e
        obtain ⟨pv, cv, rfl⟩ := hs1.shape
        have B7 := Lib.hid (Bb.out.trans ((HB.out.trans (h9.b.mono HB.out.size)).mono Bb.out.size))
        rw [show (nsOf []).length = 0 from by simp [nsOf, nsL]]
        clear h9 hs1
        go_wp2_with fail
        go_ret
        exact ⟨rfl, B7.out⟩
  · clear hsm
    go_wp2_with fail
    go_ret
    exact ⟨rfl, Bb.out⟩
theorem twins_walk (room : Int) (v : Value) (l : List CX) (w : World) (h : Rows w 7 (callR w) v l) : Calls Try.prog 8 #[.int .i64 room, v] w (LawEnd w) := by
  obtain ⟨cs, h1, h2⟩ := script_open h
  exact twins_small room v cs w h1 h2
end Go.Proofs.Ytfmcemedaehcoaa
