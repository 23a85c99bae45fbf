/- The document's Write, Steps. -/
import Derived.Test.YtbdlmdmbaajcmaaZq
import Derived.Test.YtbdlmdmbaajcmaaKr
namespace Go.Proofs.Ytbdlmdmbaajcmaa
set_option linter.unusedVariables false
set_option linter.unusedSimpArgs false
open Go.ChangeShapes Go.WideShapes Go.ChangeAt Go.RowKit

theorem Gr.join {T : Nat → Prop} {w w1 w2 : World} (h1 : w.heap.size ≤ w1.heap.size) (h2 : w1.heap.size ≤ w2.heap.size) : ∀ k, Gr (Gr T w w1) w1 w2 k → Gr T w w2 k := fun k hk => by
  rcases hk with (hk | hk) | hk
  · exact .inl hk
  · exact .inr ⟨hk.1, by omega⟩
  · exact .inr ⟨by omega, hk.2⟩
def rsA (m : Int) (lv : Value) (z : Int) : Array Value := #[.int .i64 m, lv, .int .i64 z]
/-- The document's store in memory. -/
structure Rs (T : Nat → Prop) (b : Nat) (m : Int) (L : List En) (z : Int) (w : World) : Prop where
  f : ∃ lv, w.heap[b]? = some (.cells (rsA m lv z) 34 (0, 0)) ∧ RowL T L lv w
  t : T b
theorem Rs.below {T : Nat → Prop} {b : Nat} {m : Int} {L : List En} {z : Int} {w w' : World} (h : Rs T b m L z w) (hB : Below w.heap.size w w') : Rs T b m L z w' := by
  obtain ⟨lv, h1, h2⟩ := h.f
  exact ⟨⟨lv, (hB.block _ (lt_of_block h1)).trans h1, h2.below hB⟩, h.t⟩
theorem Rs.kept {T T2 : Nat → Prop} {b : Nat} {m : Int} {L : List En} {z : Int} {w w' : World} (h : Rs T b m L z w) (hk : Kept T2 w w') (hd : ∀ k, T k → ¬ T2 k) : Rs T b m L z w' := by
  obtain ⟨lv, h1, h2⟩ := h.f
  exact ⟨⟨lv, (hk.block _ (lt_of_block h1) (hd _ h.t)).trans h1, h2.kept hk hd⟩, h.t⟩
theorem Rs.mono {T T2 : Nat → Prop} {b : Nat} {m : Int} {L : List En} {z : Int} {w : World} (h : Rs T b m L z w) (hd : ∀ k, T k → T2 k) : Rs T2 b m L z w := by
  obtain ⟨lv, h1, h2⟩ := h.f
  exact ⟨⟨lv, h1, h2.mono hd⟩, hd _ h.t⟩
theorem set_ne {w : World} {b g i : Nat} {v : Value} (h : g ≠ b) : (w.setCell ⟨b, i, none⟩ v).heap[g]? = w.heap[g]? := by
  show (w.heap.modify b _)[g]? = _
  rw [Array.getElem?_modify, if_neg (fun e => h e.symm)]
theorem RowL.set {T : Nat → Prop} {L : List En} {v u : Value} {w : World} {b i : Nat} {R : Array Value} (h : RowL T L v w) (hb : w.heap[b]? = some (.cells R 34 (0, 0))) : RowL T L v (w.setCell ⟨b, i, none⟩ u) := by
  obtain ⟨B, h1, h2⟩ := h.f
  refine ⟨B, ownG_same h1 (fun g hg => set_ne (fun e => ?_)), h2⟩
  obtain ⟨_, _, cur, hc⟩ := ownG_lt h1 g hg
  rw [e, hb] at hc
  injection hc with hc
  injection hc with _ hc
  exact absurd hc (by decide)
theorem Rs.list {T : Nat → Prop} {b : Nat} {m z : Int} {L2 : List En} {lv lv2 : Value} {w : World} (hb : w.heap[b]? = some (.cells (rsA m lv z) 34 (0, 0))) (hr : RowL T L2 lv2 w) (ht : T b) : Rs T b m L2 z (w.setCell ⟨b, 1, none⟩ lv2) :=
  ⟨⟨lv2, by have h := block_set (i := 1) (u := lv2) hb; simpa [rsA] using h, hr.set hb⟩, ht⟩
theorem Rs.num {T : Nat → Prop} {b : Nat} {m z z2 : Int} {L2 : List En} {lv : Value} {w : World} (hb : w.heap[b]? = some (.cells (rsA m lv z) 34 (0, 0))) (hr : RowL T L2 lv w) (ht : T b) : Rs T b m L2 z2 (w.setCell ⟨b, 2, none⟩ (.int .i64 z2)) :=
  ⟨⟨lv, by have h := block_set (i := 2) (u := .int .i64 z2) hb; simpa [rsA] using h, hr.set hb⟩, ht⟩
/-- What a call on the document's store leads to: an error, entries, a size. -/
def RsEnd (T : Nat → Prop) (b : Nat) (m : Int) (o : Int × List En × Int) (w : World) (e : Ending) (w' : World) : Prop :=
  e = .returned (.int .i64 o.1) ∧ Rs (Gr T w w') b m o.2.1 o.2.2 w' ∧ Kept (fun k => k = b) w w'
theorem RsEnd.pre {T : Nat → Prop} {b : Nat} {m : Int} {o : Int × List En × Int} {w w1 w2 : World} {e : Ending} (h : RsEnd T b m o w1 e w2) (hB : Below w.heap.size w w1) : RsEnd T b m o w e w2 :=
  ⟨h.1, h.2.1.mono (fun k hk => hk.imp id (fun x => ⟨Nat.le_trans hB.size x.1, x.2⟩)), (Kept.of_below hB).trans' h.2.2⟩
theorem RsEnd.same {T : Nat → Prop} {b : Nat} {m : Int} {L : List En} {z : Int} {w w' : World} (h : Rs T b m L z w) (hB : Below w.heap.size w w') (x : Int) : RsEnd T b m (x, L, z) w (.returned (.int .i64 x)) w' :=
  ⟨rfl, (h.below hB).mono (fun k hk => .inl hk), Kept.of_below hB⟩
theorem set_size (w : World) (p : Addr) (v : Value) : (w.setCell p v).heap.size = w.heap.size := by simp [World.setCell]
def writeOut (L : List En) (z : Int) (R : List ByteArray) (free : Int) : Int × List En × Int := if free < (bytesN R : Int) then (6, L, z) else (0, doAll L R, z + (bytesN R : Int))
set_option maxRecDepth 100000 in
set_option maxHeartbeats 2000000 in
/-- Records are done, if there is room. -/
theorem write_any {T : Nat → Prop} {b : Nat} {m : Int} {L : List En} {z : Int} {w : World} (rs : Rs T b m L z w) (nd : (L.map (·.1)).Nodup) (hzz : 0 ≤ z ∧ z ≤ 1099511627776) (R : List ByteArray) (u : Value) (B0 : Nat) (hR : w.ownsRow B0 9 1 u R.length (R.map Value.string)) (hB0 : ∀ k, T k → k < B0) (hz : bytesN R ≤ 1073741824) (hr : ∀ r ∈ R, r.size ≤ 1048576) (hl : L.length + R.length ≤ 4194304) (free : Int) :
    Calls Try.prog 61 #[.pointer (some ⟨b, 0, none⟩), u, .int .i64 free] w (RsEnd T b m (writeOut L z R free) w) := by
  have HBy := Lib.hid (bytesL_any R u w (Strs.ofRow hR) hz)
  have HRs := Lib.hid rs
  have HRow := Lib.hid hR
  have HB0 := Lib.hid hB0
  have Hr := Lib.hid hr
  have HNd := Lib.hid nd
  have HTb := Lib.hid rs.t
  obtain ⟨⟨pu, cu, hu⟩, hq⟩ := parts_cells hR
  have Hq := Lib.hid hq
  subst hu
  unfold writeOut
  obtain ⟨n, hn⟩ : ∃ n, n = bytesN R := ⟨_, rfl⟩
  have hnz : n ≤ 1073741824 := by omega
  rw [← hn] at HBy ⊢
  have Hn := Lib.hid hn
  clear rs nd hR hB0 hr hq hz hn
  by_cases hf : free < (n : Int)
  · rw [if_pos hf]
    go_enter Try.func61, Try.ntmps61
    go_wp2_with fail
    refine HBy.out.mono ?_
    rintro e w1 ⟨rfl, hB⟩
    have HE := Lib.hid (RsEnd.same HRs.out hB 6)
    clear hB HBy
    go_wp2_with fail
    go_ret
    exact HE.out
  rw [if_neg hf]
  go_enter Try.func61, Try.ntmps61
  go_wp2_with fail
  refine HBy.out.mono ?_
  rintro e w1 ⟨rfl, hB⟩
  have HS0 := Lib.hid ((HRs.out.below hB).mono (T2 := Gr T w w1) (fun k hk => .inl hk))
  have HK0 := Lib.hid (Kept.of_below (S := fun k => k = b) hB)
  clear hB HBy
  go_wp2_with fail
  go_loopg [8, 15] R.length (fun g _ iv wr => ∃ j : Nat, j + g = R.length ∧ iv = .int .i64 j ∧ Hid (Rs (Gr T w wr) b m (doAll L (R.take j)) z wr) ∧ Hid (Kept (fun k => k = b) w wr))
  case atStart => exact ⟨0, by omega, rfl, HS0, HK0⟩
  case round =>
    obtain ⟨j, hjg, rfl, HS, HK⟩ := hrel
    by_cases hj : j < R.length
    · have hjI : (j : Int) < (R.length : Int) := by omega
      obtain ⟨g5, c5, hu5, hg0, hg5, hc5, hm5, hcell⟩ := Hq.out (by omega)
      injection hu5 with hu5 _ hu6
      subst hu5
      subst hu6
      have hcj := (Kept.cell' HK.out hg5 (fun ho => by have := HB0.out b HTb.out; omega) j).trans (hcell j hj)
      obtain ⟨lv, hbx, hrow⟩ := HS.out.f
      obtain ⟨p1, c1, rfl⟩ := hrow.slice
      have hlj := doAll_len (R.take j) L
      rw [List.length_take] at hlj
      have HD := Lib.hid (done_any _ _ wr hrow (by omega) (doAll_nd (R.take j) HNd.out) R[j] (Hr.out _ (List.getElem_mem hj)))
      have HG := Lib.hid (show doAll L (R.take (j + 1)) = doG (doAll L (R.take j)) R[j] from by rw [List.take_add_one, List.getElem?_eq_getElem hj]; exact doAll_snoc _ _ _)
      have Hbx := Lib.hid hbx
      have d1 := block_cell hbx 1
      rw [show (rsA m (.slice p1 (doAll L (R.take j)).length c1) z)[1]? = some (.slice p1 (doAll L (R.take j)).length c1) from rfl] at d1
      clear hcell hrow hlj hbx
      generalize R[j] = r at *
      generalize (doAll L (R.take j)).length = l0 at *
      go_wp2_with fail
      refine HD.out.mono ?_
      rintro e w2 ⟨v', rfl, hrow2, hB⟩
      obtain ⟨p2, c2, hv2⟩ := hrow2.slice
      have hbx2 := (hB.block b (lt_of_block Hbx.out)).trans Hbx.out
      have d2 := block_cell hbx2 1
      rw [show (rsA m (.slice p1 l0 c1) z)[1]? = some (.slice p1 l0 c1) from rfl] at d2
      have f2 := block_free hbx2 1
      have hsz := HK.out.size
      have HS3 := Lib.hid (show Rs (Gr T w (w2.setCell ⟨b, 1, none⟩ v')) b m (doAll L (R.take (j + 1))) z (w2.setCell ⟨b, 1, none⟩ v') from by
        rw [HG.out]
        refine Rs.list hbx2 (hrow2.mono (fun k hk => ?_)) (.inl HTb.out)
        have := Gr.join hsz hB.size k hk
        exact this.imp id (fun x => ⟨x.1, by rw [set_size]; exact x.2⟩))
      have HK3 := Lib.hid ((HK.out.trans' (Kept.of_below (S := fun k => k = b) hB)).trans' (kept_cell (T := fun k => k = b) (i := 1) (v := v') rfl))
      subst hv2
      generalize ((doC (doAll L (R.take j)) r).getD (doAll L (R.take j))).length = l2 at *
      generalize (doC (doAll L (R.take j)) r).isSome = bb at *
      clear hrow2 hB d1 hcj hbx2 HD
      go_wp2_with fail
      go_roundg (gk - 1)
      case measure => omega
      case rel => exact ⟨j + 1, by omega, by go_num, HS3, HK3⟩
    · obtain rfl : j = R.length := by omega
      have hjI : ¬ (R.length : Int) < (R.length : Int) := by omega
      have hown := ownG_same HRow.out (fun g hg => HK.out.block g (ownG_lt HRow.out g hg).1 (fun hT => by have := (ownG_lt HRow.out g hg).2.1; have := HB0.out b HTb.out; omega))
      have HC := Lib.hid (fun (w9 : World) (h9 : Below wr.heap.size wr w9) => (bytesL_any R _ w9 ((Strs.ofRow hown).below h9) (by rw [← Hn.out]; exact hnz)).mono (fun e9 w8 hh => (⟨by rw [Hn.out]; exact hh.1, h9.trans (hh.2.mono h9.size)⟩ : e9 = .returned (.int .i64 (n : Nat)) ∧ Below wr.heap.size wr w8)))
      obtain ⟨lv, hbx, hrow⟩ := HS.out.f
      have H2 := Lib.hid (fun w9 (h9 : Below wr.heap.size wr w9) => (by have e := (h9.cell (p := ⟨b, 2, none⟩) (lt_of_block hbx)).trans (block_cell hbx 2); simp [rsA] at e; simp [go_sem, e] : (loadVar 3 ⟨b, 2, none⟩).run Try.prog w9 = .ok (.int .i64 z) w9))
      have Hbx := Lib.hid hbx
      have Hrow := Lib.hid hrow
      have hzw : IntKind.i64.wrap (z + (n : Int)) = z + (n : Int) := by simp [IntKind.wrap, IntKind.bits, IntKind.signed]; omega
      have hd := HK.out.size
      clear hown hbx hrow HS
      go_wp2_with fail
      refine wp_region_class_tail (Below wr.heap.size wr) 10 (by kernel_rfl) (by kernel_rfl) (Below.refl _ _).drew ?_
      simp only [List.take_succ_cons, List.take_zero, List.drop_succ_cons, List.drop_zero]
      repeat (go_big_quiet_step (first | (intro _; rfl)))
      refine wpQuiet_load_at rfl 3 (.tmp 35) rfl ⟨b, 2, none⟩ rfl (.int .i64 z) H2.out ?_
      simp only [Act.put, List.setIfInBounds_toArray, List.set_cons_succ, List.set_cons_zero]
      repeat (go_big_quiet_step (first | (intro _; rfl) | (intro hq; exact HC.out _ hq)))
      refine wpQuiet_nil ?_
      intro wq hBq
      have hbx2 := (hBq.block b (lt_of_block Hbx.out)).trans Hbx.out
      have d2 := block_cell hbx2 2
      rw [show (rsA m lv z)[2]? = some (.int .i64 z) from rfl] at d2
      have f2 := block_free hbx2 2
      have HE := Lib.hid (show RsEnd T b m (0, doAll L R, z + (n : Int)) w (.returned (.int .i64 0)) (wq.setCell ⟨b, 2, none⟩ (.int .i64 (z + (n : Int)))) from ⟨rfl, by
        have := Hrow.out
        rw [List.take_length] at this
        exact Rs.num hbx2 ((this.below hBq).mono (fun k hk => hk.imp id (fun x => ⟨x.1, by rw [set_size]; have := hBq.size; omega⟩))) (.inl HTb.out), (HK.out.trans' (Kept.of_below (S := fun k => k = b) hBq)).trans' (kept_cell (T := fun k => k = b) (i := 2) rfl)⟩)
      clear hbx2 hBq H2 HC
      go_wp2_with fail
      go_ret
      exact HE.out
end Go.Proofs.Ytbdlmdmbaajcmaa
