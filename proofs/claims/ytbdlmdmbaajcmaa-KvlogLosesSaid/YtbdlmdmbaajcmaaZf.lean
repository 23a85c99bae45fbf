/- All keys; records are put to the file's end, and done. -/
import Derived.Test.YtbdlmdmbaajcmaaZe
namespace Go.Proofs.Ytbdlmdmbaajcmaa
set_option linter.unusedVariables false
set_option linter.unusedSimpArgs false
open Go.ChangeShapes Go.WideShapes Go.ChangeAt Go.RowKit

/-- A row of its own, of strings. -/
def StrsEnd (G : List ByteArray) (w : World) (e : Ending) (w' : World) : Prop := ∃ v, e = .returned v ∧ w'.ownsRow w.heap.size 9 1 v G.length (G.map Value.string) ∧ Below w.heap.size w w'
theorem StrsEnd.of {G : List ByteArray} {w w' : World} {v : Value} {j : Nat} (h : w'.ownsRow w.heap.size 9 1 v j (G.map Value.string)) (hj : G.length = j) (hB : Below w.heap.size w w') : StrsEnd G w (.returned v) w' :=
  ⟨v, rfl, by rw [hj]; exact h, hB⟩
theorem box2 (w : World) (a v : ByteArray) : Below w.heap.size w (w.alloc (.cells #[.string a, .string v] 92)) ∧ (w.alloc (.cells #[.string a, .string v] 92)).heap[w.heap.size]? = some (.cells #[.string a, .string v] 92 (0, 0)) :=
  ⟨(Below.refl w.heap.size w).alloc (Nat.le_refl _) _, heap_alloc_new w _⟩
set_option maxRecDepth 100000 in
set_option maxHeartbeats 2000000 in
/-- All keys, the eldest first. -/
theorem keys_any {T : Nat → Prop} {b d : Nat} {nm : ByteArray} {m : Int} {L : List En} {w : World} (st : St T b d nm m L w) (hl : L.length ≤ 8388608) :
    Calls Try.prog 22 #[.pointer (some ⟨b, 0, none⟩)] w (StrsEnd (L.map (·.1)) w) := by
  obtain ⟨lv, h1, h2, h3⟩ := st.f
  have hlat := LAt.own (fun x _ => enV_len x) h2
  obtain ⟨p, c, rfl, hp⟩ := gen_shape hlat
  have HL := Lib.hid hlat
  have Hb := Lib.hid h1
  have c3 := block_cell h1 3
  rw [show (stA d nm m (.slice p L.length c))[3]? = some (.slice p L.length c) from rfl] at c3
  have hbl := lt_of_block h1
  obtain ⟨i0, z0, hi, hz0, hz1, hz2, _⟩ := eltS.inf
  clear h2 h3 hlat st h1
  go_enter Try.func22, Try.ntmps22
  go_wp2_with (first | (at_make; refine wpList_make_own _ rfl _ _ 49 rfl w.heap.size 9 i0 z0 1 Try.underlying49 hi hz0 hz1 .i64 .i64 _ L.length rfl rfl rfl (by rw [hz2]; omega) (by unfold maxLen; omega) (Nat.le_refl _) ?_; intro w1 ho1 hg1; have Ho1 := Lib.hid ho1; have hB1 : Below w.heap.size w w1 := ⟨hg1.os, hg1.tape, hg1.output, hg1.size, fun k hk => hg1.block k hk (by simp)⟩; have HB1 := Lib.hid hB1; have d3 := (hB1.cell (p := ⟨b, 3, none⟩) hbl).trans c3; clear ho1 hg1 hB1))
  go_loopg [3, 5, 19] L.length (fun g v _ iv wr => ∃ j : Nat, j + g = L.length ∧ iv = .int .i64 j ∧ Hid (wr.ownsRow w.heap.size 9 1 v ((L.take j).map (·.1)).length (LF (fun s : ByteArray => [Value.string s]) ((L.take j).map (·.1)))) ∧ Hid (Below w.heap.size w wr))
  case atStart => exact ⟨0, by omega, rfl, Ho1, HB1⟩
  case round =>
    obtain ⟨j, hjg, rfl, HO, HB⟩ := hrel
    by_cases hj : j < L.length
    · have hjI : (j : Int) < (L.length : Int) := by omega
      obtain ⟨g0, off, rfl⟩ := hp (by omega)
      obtain ⟨x1, x2, hx⟩ : ∃ x1 x2, L[j] = (x1, x2) := ⟨_, _, rfl⟩
      have hxi : L[j]? = some (x1, x2) := by rw [List.getElem?_eq_getElem hj, hx]
      obtain ⟨hg, hc0, hc1⟩ := HL.out.cellsN hxi
      have e0 := (HB.out.cell (p := ⟨g0, off + j * 2, none⟩) hg).trans hc0
      have e1 := (HB.out.cell (p := ⟨g0, off + j * 2 + 1, none⟩) hg).trans hc1
      obtain ⟨hbB, hbh⟩ := box2 wr x1 x2
      have b0 := block_cell hbh 0
      have b1 := block_cell hbh 1
      have HO2 := Lib.hid (gen_own_below HO.out hbB)
      have HB2 := Lib.hid (HB.out.trans (hbB.mono HB.out.size))
      have HG := Lib.hid (show (L.take (j + 1)).map (·.1) = (L.take j).map (·.1) ++ [x1] from by rw [List.take_add_one, hxi, List.map_append]; rfl)
      clear hx hxi hc0 hc1 hbB hbh
      go_upto_region 7 with fail
      generalize wr.alloc (.cells #[.string x1, .string x2] 92) = w2 at *
      have hsz2 := HB2.out.size
      have hG0l : ((L.take j).map (·.1)).length = j := by rw [List.length_map, List.length_take]; omega
      generalize hG0 : (L.take j).map (·.1) = G0 at *
      have hjb : G0.length + 1 ≤ 8388609 := by omega
      clear hG0
      have Hjl := Lib.hid hG0l
      clear hG0l HO HB e0 e1
      go_wp2_with (at_builtin; go_must (refine wpList_append_gen eltS rfl (.tmp 23) (.tmp 26) rfl rfl w.heap.size _ G0 rfl (gen_own_below HO2.out ((Below.refl w2.heap.size w2).alloc (Nat.le_refl _) (.cells #[.string x1] 9))) _ [x1] (LAt.block rfl rfl (heap_alloc_new w2 (.cells #[.string x1] 9))) rfl (by simp only [List.length_cons, List.length_nil]; omega) (by unfold maxLen; simp only [List.length_cons, List.length_nil]; omega) (by simp; omega) ?_); intro v4 w4 hown4 hgrow4)
      have HB4 := Lib.hid ((HB2.out.trans (((Below.refl w2.heap.size w2).alloc (Nat.le_refl _) (.cells #[.string x1] 9)).mono HB2.out.size)).grown hgrow4 (by simp; omega) (fun k hk => (HO2.out.lt k hk).1))
      go_roundg (gk - 1)
      case measure => omega
      case rel =>
        refine ⟨j + 1, by omega, by go_num, Lib.hid ?_, HB4⟩
        rw [HG.out]
        exact hown4
    · obtain rfl : j = L.length := by omega
      have hjI : ¬ (L.length : Int) < (L.length : Int) := by omega
      have HE := Lib.hid (show L.take L.length = L from List.take_length)
      go_wp2_with fail
      go_ret
      have := HO.out
      rw [HE.out, LF_strs] at this
      exact StrsEnd.of this rfl HB.out
/-! ### The log -/
theorem own_base {w : World} {e : TypeId} {s B B' : Nat} {v : Value} {n : Nat} {xs : List Value} (h : w.ownsRow B e s v n xs) (hB : B' ≤ B) : w.ownsRow B' e s v n xs := by
  refine ⟨h.1, ?_⟩
  rcases h.2 with h | ⟨g, cap, cur, hv, hg, rest⟩
  · exact .inl h
  · exact .inr ⟨g, cap, cur, hv, by omega, rest⟩
def Or2 (T S : Nat → Prop) (k : Nat) : Prop := T k ∨ S k
/-- A store on a device: each in blocks of its own. -/
structure Kv (TD TS : Nat → Prop) (b d : Nat) (nm : ByteArray) (m : Int) (h : Hd) (A : List Ab) (L : List En) (w : World) : Prop where
  dv : DV TD d h A w
  st : St TS b d nm m L w
  dj : ∀ k, TD k → ¬ TS k
  ld : ∀ k, TD k → k < w.heap.size
  ls : ∀ k, TS k → k < w.heap.size
/-- What a call leads to. -/
def KvTo (TD TS : Nat → Prop) (b d : Nat) (nm : ByteArray) (m : Int) (h : Hd) (A : List Ab) (L : List En) (w w' : World) : Prop :=
  ∃ TD' TS', Kv TD' TS' b d nm m h A L w' ∧ (∀ k, TD' k → Gr TD w w' k) ∧ (∀ k, TS' k → Gr TS w w' k) ∧ Kept (Or2 TD TS) w w'
theorem Kv.below {TD TS : Nat → Prop} {b d : Nat} {nm : ByteArray} {m : Int} {h : Hd} {A : List Ab} {L : List En} {w w' : World} (k : Kv TD TS b d nm m h A L w) (hB : Below w.heap.size w w') : Kv TD TS b d nm m h A L w' :=
  ⟨k.dv.below hB, k.st.below hB, k.dj, fun q hq => Nat.lt_of_lt_of_le (k.ld q hq) hB.size, fun q hq => Nat.lt_of_lt_of_le (k.ls q hq) hB.size⟩
theorem Kv.to {TD TS : Nat → Prop} {b d : Nat} {nm : ByteArray} {m : Int} {h : Hd} {A : List Ab} {L : List En} {w w' : World} (k : Kv TD TS b d nm m h A L w) (hB : Below w.heap.size w w') : KvTo TD TS b d nm m h A L w w' :=
  ⟨TD, TS, k.below hB, fun q hq => .inl hq, fun q hq => .inl hq, Kept.of_below hB⟩
theorem KvTo.trans {TD TS : Nat → Prop} {b d : Nat} {nm : ByteArray} {m : Int} {h h2 : Hd} {A A2 : List Ab} {L L2 : List En} {w w1 w2 : World} (k1 : KvTo TD TS b d nm m h A L w w1) (k2 : ∀ TD' TS', Kv TD' TS' b d nm m h A L w1 → (∀ k, TD' k → Gr TD w w1 k) → (∀ k, TS' k → Gr TS w w1 k) → KvTo TD' TS' b d nm m h2 A2 L2 w1 w2) : KvTo TD TS b d nm m h2 A2 L2 w w2 := by
  obtain ⟨TD1, TS1, q1, q2, q3, q4⟩ := k1
  obtain ⟨TD2, TS2, r1, r2, r3, r4⟩ := k2 TD1 TS1 q1 q2 q3
  refine ⟨TD2, TS2, r1, fun k hk => ?_, fun k hk => ?_, q4.trans (r4.mono fun k hk => ?_)⟩
  · exact Gr.step q4.size r4.size k (Gr.mono q2 k (r2 k hk))
  · exact Gr.step q4.size r4.size k (Gr.mono q3 k (r3 k hk))
  · rcases hk with hk | hk
    · exact (q2 k hk).imp .inl id
    · exact (q3 k hk).imp .inr id
/-- The device turned. -/
theorem Kv.dev {TD TS : Nat → Prop} {b d : Nat} {nm : ByteArray} {m : Int} {h h2 : Hd} {A A2 : List Ab} {L : List En} {w w' : World} (k : Kv TD TS b d nm m h A L w) (hd : DV (Gr TD w w') d h2 A2 w') (hk : Kept TD w w') : KvTo TD TS b d nm m h2 A2 L w w' :=
  ⟨Gr TD w w', TS, ⟨hd, k.st.kept hk (fun q hq hd => k.dj q hd hq), fun q hq hs => by
    rcases hq with hq | hq
    · exact k.dj q hq hs
    · have := k.ls q hs; omega, fun q hq => by
    rcases hq with hq | hq
    · exact Nat.lt_of_lt_of_le (k.ld q hq) hk.size
    · exact hq.2, fun q hq => Nat.lt_of_lt_of_le (k.ls q hq) hk.size⟩, fun q hq => hq, fun q hq => .inl hq, hk.mono (fun q hq => .inl hq)⟩
/-- The store turned. -/
theorem Kv.sto {TD TS : Nat → Prop} {b d : Nat} {nm : ByteArray} {m : Int} {h : Hd} {A : List Ab} {L L2 : List En} {w w' : World} (k : Kv TD TS b d nm m h A L w) (hs : St (Gr TS w w') b d nm m L2 w') (hk : Kept TS w w') : KvTo TD TS b d nm m h A L2 w w' :=
  ⟨TD, Gr TS w w', ⟨k.dv.kept hk k.dj, hs, fun q hq hs => by
    rcases hs with hs | hs
    · exact k.dj q hq hs
    · have := k.ld q hq; omega, fun q hq => Nat.lt_of_lt_of_le (k.ld q hq) hk.size, fun q hq => by
    rcases hq with hq | hq
    · exact Nat.lt_of_lt_of_le (k.ls q hq) hk.size
    · exact hq.2⟩, fun q hq => .inl hq, fun q hq => hq, hk.mono (fun q hq => .inr hq)⟩
def doG (L : List En) (r : ByteArray) : List En := (doC L r).getD L
def doAll (L : List En) (R : List ByteArray) : List En := R.foldl doG L
theorem doP_len {L : List En} {P : List ByteArray} {L2 : List En} (h : doP L P = some L2) : L2.length ≤ L.length + 1 := by
  unfold doP at h
  split at h
  · injection h with h
    subst h
    rw [List.length_append]
    have := dropL_len L (P.getD 1 ⟨#[]⟩)
    simp only [List.length_cons, List.length_nil]; omega
  · split at h
    · injection h with h
      subst h
      have := dropL_len L (P.getD 1 ⟨#[]⟩)
      omega
    · cases h
theorem doG_len (L : List En) (r : ByteArray) : (doG L r).length ≤ L.length + 1 := by
  unfold doG doC
  cases hs : C.splitB r with
  | none => show L.length ≤ _; omega
  | some P =>
    show ((doP L P).getD L).length ≤ _
    cases hp : doP L P with
    | none => show L.length ≤ _; omega
    | some L2 => exact doP_len hp
theorem doAll_len : ∀ (R : List ByteArray) (L : List En), (doAll L R).length ≤ L.length + R.length
  | [], L => by show L.length ≤ _; omega
  | r :: R, L => by
    have h1 := doAll_len R (doG L r)
    have h2 := doG_len L r
    show (doAll (doG L r) R).length ≤ _
    rw [List.length_cons]; omega
theorem doAll_snoc (L : List En) (R : List ByteArray) (r : ByteArray) : doAll L (R ++ [r]) = doG (doAll L R) r := by unfold doAll; rw [List.foldl_append]; rfl
def logE (h : Hd) (A : List Ab) (nm : ByteArray) (cc : List UInt8) : Int := if readyE h nm ≠ 0 then readyE h nm else if h.room - (totA A : Nat) < (cc.length : Nat) then 6 else 0
def logR (h : Hd) (A : List Ab) (nm : ByteArray) (cc : List UInt8) : Int × Hd × List Ab := stepA h A (apdA A nm cc) (logE h A nm cc) 0
structure PutW (w0 : World) (cc : List UInt8) (v : Value) (w : World) : Prop where
  o : w.ownsRow w0.heap.size 5 1 v cc.length (G.cellsL cc)
  bl : Below w0.heap.size w0 w
theorem PutW.st1 (w0 : World) (cc : List UInt8) : K3.St1 (PutW w0 cc) := fun v w1 w2 h hB => ⟨gen_own_below h.o hB, h.bl.trans (hB.mono h.bl.size)⟩
structure AppW (TD : Nat → Prop) (d : Nat) (r : Int × Hd × List Ab) (w0 : World) (v : Value) (w : World) : Prop where
  e : v = .int .i64 r.1
  d : DV (Gr TD w0 w) d r.2.1 r.2.2 w
  k : Kept TD w0 w
theorem AppW.st1 (TD : Nat → Prop) (d : Nat) (r : Int × Hd × List Ab) (w0 : World) : K3.St1 (AppW TD d r w0) := fun v w1 w2 h hB => ⟨h.e, (h.d.below hB).mono (gr_more hB.size), h.k.trans' (Kept.of_below hB)⟩
theorem LF_cells : ∀ (l : List UInt8), LF bV l = G.cellsL l
  | [] => rfl
  | a :: l => by
    show bV a ++ LF bV l = _
    rw [LF_cells l]
    rfl
end Go.Proofs.Ytbdlmdmbaajcmaa
