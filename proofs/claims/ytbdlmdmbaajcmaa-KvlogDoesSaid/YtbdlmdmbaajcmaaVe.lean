/- The statement KvlogDoes. -/
import Derived.Test.YtbdlmdmbaajcmaaVa
import Derived.Test.YtbdlmdmbaajcmaaVd
import Derived.Deep.OwnRows
namespace Go.Proofs.Ytbdlmdmbaajcmaa
set_option linter.unusedVariables false
set_option linter.unusedSimpArgs false
open Go.ChangeShapes Go.WideShapes Go.ChangeAt Go.RowKit

theorem made_get (z : Value) (n j : Nat) (h : j < n) : (madeCells #[z] n)[j]? = some z := by
  simp [madeCells, h, Nat.mod_one]
def zq (n : Nat) : ByteArray := ⟨(List.replicate n (0 : UInt8)).toArray⟩
theorem zq_size (n : Nat) : (zq n).size = n := by unfold zq; simp [ByteArray.size]
theorem zq_get (n i : Nat) (hi : i < (zq n).size) : (zq n)[i] = 0 := by
  show (List.replicate n (0 : UInt8)).toArray[i] = 0
  simp
theorem zeros_conv (n : Nat) (w : World) : (convert 40 9 (.slice (some ⟨w.heap.size, 0, none⟩) n n)).run Try.prog (w.alloc (.cells (madeCells #[.int .u8 0] n) 5)) = .ok (.string (zq n)) (w.alloc (.cells (madeCells #[.int .u8 0] n) 5)) := by
  have := Lib.run_convert_whole (P := Try.prog) (w.alloc (.cells (madeCells #[.int .u8 0] n) 5)) 40 5 9 Try.underlying40 Try.underlying5 Try.underlying9 w.heap.size 0 (zq n) (fun i hi => by
    rw [zq_get n i hi, block_cell (heap_alloc_new w (.cells (madeCells #[.int .u8 0] n) 5)), Nat.zero_add]
    rw [zq_size] at hi
    rw [made_get _ _ _ hi]
    rfl) n
  rwa [zq_size] at this
theorem does_tri2 {B b d b2 : Nat} {nm : ByteArray} {m m2 z r : Int} {h : Hd} {A : List Ab} {L L2 : List En} {w w0 : World} {n zz : Nat} (k : Tri B b d nm m h A L b2 m2 L2 z w) (hB0 : Below w.heap.size w w0) (hB : B ≤ w.heap.size) (so : Sol r n nm h A L zz) (hn : n ≤ 1000) (g : goodN nm = true) (g2 : goodN (nm ++ wNew) = true) (bL : Bd 200 L) (bL2 : Bd 200 L2) (hm : 1 ≤ m ∧ m ≤ 4096) (hm2 : 1 ≤ m2 ∧ m2 ≤ 4096) (hzz : 0 ≤ z ∧ z ≤ 1099511627776) (c : Cl) (hk : c.key.size ≤ 4096) (hv : c.val.size ≤ 4096) (free : Int) :
    Calls Try.prog 13 #[.pointer (some ⟨b, 0, none⟩), .pointer (some ⟨b2, 0, none⟩), cA c, .int .i64 free] w0 fun e w' => e = .returned (.tuple #[.int .i64 (refOut L m zz (r - zz) c).1, .int .i64 (refOut L2 m2 z free c).1]) ∧ (∃ h2 A2 z3, Tri B b d nm m h2 A2 (refOut L m zz (r - zz) c).2.1 b2 m2 (refOut L2 m2 z free c).2.1 (refOut L2 m2 z free c).2.2 w' ∧ Sol r (n + 3) nm h2 A2 (refOut L m zz (r - zz) c).2.1 z3 ∧ (refOut L m zz (r - zz) c).2.2 = (z3 : Int)) ∧ Below B w0 w' ∧ ∀ q, w.heap.size ≤ q → q < w0.heap.size → w'.heap[q]? = w0.heap[q]? := by
  obtain ⟨TD, TS, TR, k0, k2, k3, k4⟩ := k.s
  have k1 := k0.below hB0
  obtain ⟨h2, A2, z3, q1, q2, q3, q4⟩ := code_one so g g2 bL m c hk hv
  have hbs := hB0.size
  have hns : nm.size ≤ 28 := by
    have := (goodN_size g2).2
    rw [ByteArray.size_append] at this
    have : wNew.size = 4 := rfl
    omega
  refine (does_any k1 so.ok (by omega) hns bL bL2 hm hm2 hzz c hk hv free).mono ?_
  rintro e w' ⟨TD', TS', TR', he, p1, p2, p3, p4, p5⟩
  rw [q2, q1] at p1
  rw [q1] at he
  refine ⟨he, ⟨h2, A2, z3, ⟨TD', TS', TR', p1, fun q hq => ?_, fun q hq => ?_, fun q hq => ?_⟩, q3, q4⟩, p5.below (fun q hq => ?_) (by omega), fun q h1 h2 => p5.block q h2 (fun ho => ?_)⟩
  · rcases p2 q hq with hq | hq
    · exact k2 q hq
    · omega
  · rcases p3 q hq with hq | hq
    · exact k3 q hq
    · omega
  · rcases p4 q hq with hq | hq
    · exact k4 q hq
    · omega
  · rcases hq with (hq | hq) | hq
    · exact k2 q hq
    · exact k3 q hq
    · rw [hq]; exact k4 _ k0.rs.t
  · rcases ho with (ho | ho) | ho
    · have := k0.kv.ld q ho; omega
    · have := k0.kv.ls q ho; omega
    · have := k0.lr b2 k0.rs.t; omega
/-- What does leads to, in a region. -/
structure DoesW (B : Nat) (w1 : World) (b d : Nat) (m : Int) (b2 : Nat) (r e1 : Int) (L1 : List En) (y1 : Int) (n : Nat) (w0 : World) (v : Value) (w : World) : Prop where
  e : v = .tuple #[.int .i64 e1, .int .i64 e1]
  t : ∃ h2 A2 z3, Tri B b d kN m h2 A2 L1 b2 m L1 y1 w ∧ Sol r n kN h2 A2 L1 z3 ∧ y1 = (z3 : Nat)
  sz : w0.heap.size ≤ w.heap.size
  bl : Below B w0 w
  kp : ∀ q, w1.heap.size ≤ q → q < w0.heap.size → w.heap[q]? = w0.heap[q]?
theorem DoesW.st1 (B : Nat) (w1 : World) (b d : Nat) (m : Int) (b2 : Nat) (r e1 : Int) (L1 : List En) (y1 : Int) (n : Nat) (w0 : World) : K3.St1 (DoesW B w1 b d m b2 r e1 L1 y1 n w0) := fun v wa wb h hB => by
  obtain ⟨h2, A2, z3, q1, q2⟩ := h.t
  have hB2 : B ≤ wa.heap.size ∨ wa.heap.size < B := by omega
  refine ⟨h.e, ⟨h2, A2, z3, q1.below hB, q2⟩, Nat.le_trans h.sz hB.size, ?_, fun q h1 h2 => (hB.block q (Nat.lt_of_lt_of_le h2 h.sz)).trans (h.kp q h1 h2)⟩
  obtain ⟨TD, TS, TR, k1, k2, k3, k4⟩ := q1.s
  have hbb := k4 _ k1.rs.t
  have := k1.lr _ k1.rs.t
  exact h.bl.trans (hB.mono (by omega))
set_option maxRecDepth 100000 in
set_option maxHeartbeats 8000000 in
theorem does_walk (room most : Int) (u : Value) (S : List Cl) (w : World) (hS : LAt 7 clV w u S) (zS : ∀ c ∈ S, c.key.size ≤ 140737488351232 ∧ c.val.size ≤ 140737488351232) (lS : S.length ≤ 9223372036854775807) :
    Calls Try.prog 3 #[.int .i64 room, .int .i64 most, u] w fun e w' => e = .returned (.bool true) ∧ Below w.heap.size w w' := by
  have HA := Lib.hid (alive_any w)
  have HG0 := Lib.hid (fun w1 (hB : Below w.heap.size w w1) => great_any S u w1 (hS.below hB) lS zS)
  obtain ⟨p, c, rfl, hp⟩ := gen_shape hS
  have HqS := Lib.hid hS
  clear hS zS
  by_cases hr0 : room < 0 ∨ 65536 < room
  · obtain ⟨q0, hq0⟩ : ∃ q, decide (room < 0) = q := ⟨_, rfl⟩
    obtain ⟨q1, hq1⟩ : ∃ q, decide (65536 < room) = q := ⟨_, rfl⟩
    have hqq : q0 = true ∨ q1 = true := by
      rcases hr0 with h | h
      · exact .inl (by rw [← hq0]; exact decide_eq_true h)
      · exact .inr (by rw [← hq1]; exact decide_eq_true h)
    clear hr0
    cases q0 <;> cases q1
    · simp at hqq
    all_goals
      clear hqq
      go_enter Try.func3, Try.ntmps3
      go_wp2_with fail
      refine HA.out.mono ?_
      rintro e w1 ⟨rfl, hB⟩
      have HG := Lib.hid (HG0.out w1 hB)
      have HB := Lib.hid hB
      clear hB
      go_wp2_with fail
      refine HG.out.mono ?_
      rintro e w2 ⟨r, rfl, hr, hB⟩
      have HB2 := Lib.hid (HB.out.trans (hB.mono HB.out.size))
      clear hr hB HG
      cases r
      all_goals
        go_wp2_with fail
        go_ret
        exact ⟨rfl, HB2.out⟩
  have hr1 : ¬ room < 0 := fun h => hr0 (.inl h)
  have hr2 : ¬ 65536 < room := fun h => hr0 (.inr h)
  clear hr0
  go_enter Try.func3, Try.ntmps3
  go_wp2_with fail
  refine HA.out.mono ?_
  rintro e w1 ⟨rfl, hB⟩
  have HG := Lib.hid (HG0.out w1 hB)
  have HB := Lib.hid hB
  clear hB HG0 HA
  go_wp2_with fail
  refine HG.out.mono ?_
  rintro e w2 ⟨r, rfl, hr, hB⟩
  have HB2 := Lib.hid (HB.out.trans (hB.mono HB.out.size))
  clear hB HG HB
  cases r with
  | true =>
    go_wp2_with fail
    go_ret
    exact ⟨rfl, HB2.out⟩
  | false =>
  obtain ⟨h60, h4096⟩ := hr rfl
  have HTot := Lib.hid (fun c hc => show c.key.size + c.val.size ≤ 4096 from Nat.le_trans (tot_mem S c hc) h4096)
  have HN := Lib.hid (cNew room w2)
  have hws := HB2.out.size
  clear hr h4096
  go_wp2_with fail
  refine HN.out.mono ?_
  rintro e w3 ⟨rfl, hd, hB⟩
  have HB3 := Lib.hid hB
  by_cases hmo : most < 1 ∨ 4096 < most
  · have HO := Lib.hid (open_arg (w2.heap.size + 1) ⟨#[107]⟩ most w3 (by decide) (by rcases hmo with h | h; exact .inr (.inr (.inl h)); exact .inr (.inr (.inr h))))
    clear hd hB HN
    obtain ⟨q0, hq0⟩ : ∃ q, decide (most < 1) = q := ⟨_, rfl⟩
    obtain ⟨q1, hq1⟩ : ∃ q, decide (4096 < most) = q := ⟨_, rfl⟩
    have hqq : q0 = true ∨ q1 = true := by
      rcases hmo with h | h
      · exact .inl (by rw [← hq0]; exact decide_eq_true h)
      · exact .inr (by rw [← hq1]; exact decide_eq_true h)
    clear hmo
    go_wp2_with fail
    refine HO.out.mono ?_
    rintro e w4 ⟨rfl, hB⟩
    have HE := Lib.hid (show Below w.heap.size w w4 from HB2.out.trans ((HB3.out.mono (Nat.le_of_eq rfl) |>.trans (hB.mono HB3.out.size)).mono hws))
    clear hB HO
    cases q0 <;> cases q1
    · simp at hqq
    all_goals
      clear hqq
      go_wp2_with fail
      go_ret
      exact ⟨rfl, HE.out⟩
  have hm1 : ¬ most < 1 := fun h => hmo (.inl h)
  have hm2 : ¬ 4096 < most := fun h => hmo (.inr h)
  have hmm : 1 ≤ most ∧ most ≤ 4096 := by omega
  have HO := Lib.hid (start_duo (by omega) (by omega) hd hB.size most hmm)
  unfold kN at HO
  clear hd hB HN hmo
  go_wp2_with fail
  refine HO.out.mono ?_
  rintro e w4 ⟨b0, rfl, hs, hB⟩
  have HB4 := Lib.hid (HB3.out.trans hB)
  have hb4 := HB4.out.size
  have HSo0 := Lib.hid (start_sol room (by omega) (by omega) kN)
  have hbm := (Below.refl w4.heap.size w4).alloc (Nat.le_refl _) (.cells #[.int .i64 most, .slice none 0 0, .int .i64 0] 34)
  have hnm := heap_alloc_new w4 (.cells #[.int .i64 most, .slice none 0 0, .int .i64 0] 34)
  have hT0 := Lib.hid (hs.tri (b2 := w4.heap.size) (m2 := most) (L2 := []) (z := 0) hbm hb4 ⟨⟨_, hnm, w4.heap.size, ⟨rfl, .inl ⟨rfl, rfl⟩⟩, fun g hg => by cases hg⟩, by simp⟩)
  have HB5 := Lib.hid (HB4.out.trans (hbm.mono hb4))
  clear hs hB HO HB3 hbm hnm
  generalize w2.heap.size + 1 = d at *
  go_upto_region 12 with fail
  generalize w4.alloc (.cells #[.int .i64 most, .slice none 0 0, .int .i64 0] 34) = w5 at *
  obtain ⟨b2, hb2⟩ : ∃ b2, b2 = w4.heap.size := ⟨_, rfl⟩
  rw [← hb2] at hT0 ⊢
  have Hb2 := Lib.hid hb2
  clear hb2 hb4
  go_wp2_with fail
  go_loopg [8, 12, 13, 14, 15, 16, 17, 66] S.length (fun g sv _ _ _ _ _ _ iv wr => ∃ (j b : Nat) (L : List En) (h : Hd) (A : List Ab) (z : Nat), j + g = S.length ∧ iv = .int .i64 j ∧ sv = .pointer (some ⟨b, 0, none⟩) ∧ Hid (Bd j L) ∧ Hid ((L.length : Int) ≤ most) ∧ Hid (Sol room (3 * j) kN h A L z) ∧ Hid (Tri w2.heap.size b d kN most h A L b2 most L (z : Nat) wr) ∧ Hid (Below w2.heap.size w2 wr))
  case atStart => exact ⟨0, b0, [], newH room, [], 0, by omega, rfl, rfl, Lib.hid ⟨by simp, by simp, by simp⟩, Lib.hid (by simp; omega), HSo0, hT0, HB5⟩
  case round =>
    obtain ⟨j, b, L, h, A, z, hjg, rfl, rfl, HBd, HLm, HSo, HT, HBr⟩ := hrel
    have hbs := HBr.out.size
    have HBw := Lib.hid (show Below w.heap.size w wr from HB2.out.trans (HBr.out.mono hws))
    by_cases hj : j < S.length
    case neg =>
      have hjI : ¬ (j : Int) < (S.length : Int) := by omega
      have HG1 := Lib.hid (fun w9 => get_nil ⟨#[97]⟩ w9)
      have HO1 := Lib.hid (fun w9 => open_nil ⟨#[107]⟩ 1 w9)
      have HO2 := Lib.hid (fun w9 => open_arg d ⟨#[]⟩ 1 w9 (by decide) (.inl rfl))
      have HE := Lib.hid (show Below w.heap.size w wr from HBw.out)
      clear HT HSo HLm HBd
      go_wp2_with fail
      refine (HG1.out _).mono ?_
      rintro e wa ⟨rfl, hB⟩
      have HEa := Lib.hid (HE.out.trans (hB.mono HE.out.size))
      clear hB
      go_wp2_with fail
      refine (HO1.out _).mono ?_
      rintro e wb ⟨rfl, hB⟩
      have HEb := Lib.hid (HEa.out.trans (hB.mono HEa.out.size))
      clear hB
      go_wp2_with fail
      refine (HO2.out _).mono ?_
      rintro e wc ⟨rfl, hB⟩
      have HEc := Lib.hid (HEb.out.trans (hB.mono HEb.out.size))
      clear hB
      have hmk : (Instr.makeSlice 40 (.int .i64 29) (.int .i64 29)).run Try.prog wc = .ok (.slice (some ⟨wc.heap.size, 0, none⟩) 29 29) (wc.alloc (.cells (madeCells #[.int .u8 0] 29) 5)) := run_make_row' (P := Try.prog) 40 5 (.int .u8 0) 1 Try.underlying40 (by kernel_rfl) rfl .i64 .i64 29 (by omega) (by omega) wc
      obtain ⟨q29, hq29⟩ : ∃ q : ByteArray, q = zq 29 := ⟨_, rfl⟩
      have hqs : q29.size = 29 := by rw [hq29]; exact zq_size 29
      have hcv := zeros_conv 29 wc
      rw [← hq29] at hcv
      have HO3 := Lib.hid (fun w9 => open_arg d q29 1 w9 (by omega) (.inr (.inl (by omega))))
      have hmB := (Below.refl wc.heap.size wc).alloc (Nat.le_refl _) (.cells (madeCells #[.int .u8 0] 29) 5)
      have HEd := Lib.hid (HEc.out.trans (hmB.mono HEc.out.size))
      clear hq29 hmB
      go_wp2_with fail
      refine (HO3.out _).mono ?_
      rintro e we ⟨rfl, hB⟩
      have HEe := Lib.hid (HEd.out.trans (hB.mono HEd.out.size))
      have HP1 := Lib.hid (fun w9 => put_nil ⟨#[97]⟩ ⟨#[]⟩ w9)
      have HP2 := Lib.hid (fun w9 => evict_nil 1 w9)
      have HP3 := Lib.hid (fun w9 => sync_nil w9)
      have HP4 := Lib.hid (fun w9 => compact_nil w9)
      have HP5 := Lib.hid (fun w9 => keys_nil w9)
      clear hB hmk hcv HO1 HO2 HO3 HG1 HEa HEb HEc HEd
      go_wp2_with fail
      refine (HP1.out _).mono ?_
      rintro e wa ⟨rfl, hB⟩
      have HEa := Lib.hid (HEe.out.trans (hB.mono HEe.out.size))
      clear hB
      go_wp2_with fail
      refine (HP2.out _).mono ?_
      rintro e wb ⟨rfl, hB⟩
      have HEb := Lib.hid (HEa.out.trans (hB.mono HEa.out.size))
      clear hB
      go_wp2_with fail
      refine (HP3.out _).mono ?_
      rintro e wf ⟨rfl, hB⟩
      have HEf := Lib.hid (HEb.out.trans (hB.mono HEb.out.size))
      clear hB
      go_wp2_with fail
      refine (HP4.out _).mono ?_
      rintro e wg ⟨rfl, hB⟩
      have HEg := Lib.hid (HEf.out.trans (hB.mono HEf.out.size))
      clear hB
      go_wp2_with fail
      refine (HP5.out _).mono ?_
      rintro e wh ⟨rfl, hB⟩
      have HEh := Lib.hid (HEg.out.trans (hB.mono HEg.out.size))
      clear hB
      go_wp2_with fail
      go_ret
      exact ⟨rfl, HEh.out⟩
    have hjI : (j : Int) < (S.length : Int) := by omega
    obtain ⟨g0, off, rfl⟩ := hp (by omega)
    obtain ⟨x, hx⟩ : ∃ x, x = S[j] := ⟨_, rfl⟩
    have hxi : S[j]? = some x := by rw [List.getElem?_eq_getElem hj, hx]
    obtain ⟨hg, q0, q1, q2, q3, q4, q5, q6⟩ := HqS.out.cellsC hxi
    have e0 := (HBw.out.cell (p := ⟨g0, off + j * 7, none⟩) hg).trans q0
    have e1 := (HBw.out.cell (p := ⟨g0, off + j * 7 + 1, none⟩) hg).trans q1
    have e2 := (HBw.out.cell (p := ⟨g0, off + j * 7 + 2, none⟩) hg).trans q2
    have e3 := (HBw.out.cell (p := ⟨g0, off + j * 7 + 3, none⟩) hg).trans q3
    have e4 := (HBw.out.cell (p := ⟨g0, off + j * 7 + 4, none⟩) hg).trans q4
    have e5 := (HBw.out.cell (p := ⟨g0, off + j * 7 + 5, none⟩) hg).trans q5
    have e6 := (HBw.out.cell (p := ⟨g0, off + j * 7 + 6, none⟩) hg).trans q6
    have hxz := HTot.out x (by rw [hx]; exact List.getElem_mem hj)
    clear q0 q1 q2 q3 q4 q5 q6 hx hxi
    have Hsz := Lib.hid (show x.key.size ≤ 4096 ∧ x.val.size ≤ 4096 from ⟨by omega, by omega⟩)
    obtain ⟨hbB, hbh⟩ := boxC wr x
    have HBd4 := Lib.hid (HBr.out.trans (hbB.mono hbs))
    have HDo0 := Lib.hid (fun fw (hf : Below (wr.alloc (.cells (clA x) 36)).heap.size (wr.alloc (.cells (clA x) 36)) fw) => does_tri2 HT.out (hbB.trans (hf.mono hbB.size)) hbs HSo.out (by omega) kN_good kN_new (HBd.out.mono (by omega)) (HBd.out.mono (by omega)) hmm hmm (by have := HSo.out.z; omega) x Hsz.out.1 Hsz.out.2 (room - (z : Nat)))
    have HBd1 := Lib.hid (ref_bd HBd.out most z (room - (z : Nat)) x Hsz.out.1 Hsz.out.2)
    have HL1 := Lib.hid (ref_len (fun e he => (HBd.out.s e he).1) most z (room - (z : Nat)) x hmm.1 HLm.out Hsz.out.1 Hsz.out.2)
    have H4 := Lib.hid (fun (hk : x.kind = 4) => show (refOut L most (z : Nat) (room - (z : Nat)) x).1 = 0 from by unfold refOut; rw [if_neg (by omega), if_neg (by omega), if_neg (by omega), if_neg (by omega)])
    obtain ⟨o1, ho1⟩ : ∃ o, o = refOut L most (z : Nat) (room - (z : Nat)) x := ⟨_, rfl⟩
    rw [← ho1] at HDo0 HBd1 HL1 H4
    obtain ⟨er, L1, y1⟩ := o1
    obtain ⟨lv, p3, c3, hlv, hbx3, _⟩ := HT.out.list
    have hbx4 := (hbB.block b2 (lt_of_block hbx3)).trans hbx3
    clear hlv hbx3 hxz ho1
    obtain ⟨kd, key, val, nn, fu, kp, tn⟩ := x
    unfold cA at HDo0
    unfold clA at HDo0 hbh HBd4 hbx4
    try dsimp only at e0 e1 e2 e3 e4 e5 e6 hbh HBd4 HDo0 HBd1 HL1 H4 hbx4
    have hsa : (wr.alloc (.cells #[.int .i64 kd, .string key, .string val, .int .i64 nn, .int .i64 fu, .int .i64 kp, .bool tn] 36)).heap.size = wr.heap.size + 1 := by simp
    go_upto_region 15 with fail
    generalize wr.alloc (.cells #[.int .i64 kd, .string key, .string val, .int .i64 nn, .int .i64 fu, .int .i64 kp, .bool tn] 36) = w10 at *
    obtain ⟨bx, hbxe⟩ : ∃ bx, bx = wr.heap.size := ⟨_, rfl⟩
    rw [← hbxe] at hbh ⊢
    have Hge := Lib.hid (show wr.heap.size ≤ bx from by omega)
    clear hbxe hbB e0 e2 e3 e4 e5 e6 hg hsa
    have hbox := hbh
    have hbox2 := hbx4
    have hlt := lt_of_block hbox
    have hlt2 := lt_of_block hbox2
    have hzz0 := HSo.out.z
    have hw1 : IntKind.i64.wrap (room - (z : Int)) = room - (z : Int) := by simp [IntKind.wrap, IntKind.bits, IntKind.signed]; omega
    have HDo := HDo0
    clear hbh hbx4 HDo0
    have hBle : w2.heap.size ≤ w10.heap.size := HBd4.out.size
    have hd4 : Below w10.heap.size w10 w10.drew := (Below.refl _ _).drew
    have hRL : ∃ Rs : List (Value → World → Prop), Rs = [K3.PureV (.pointer (some ⟨b, 0, none⟩)),
        K3.PureV (.pointer (some ⟨b2, 0, none⟩)),
        AtW w10 (.agg #[.int .i64 kd, .string key, .string val, .int .i64 nn, .int .i64 fu, .int .i64 kp, .bool tn]),
        K3.PureV (.int .i64 room),
        K3.PureV (.pointer (some ⟨b2, 0, none⟩)),
        K3.PureV (.pointer (some ⟨b2, 0, none⟩)),
        K3.PureV (.pointer (some ⟨b2, 2, none⟩)),
        K3.PureV (.int .i64 (z : Nat)),
        K3.PureV (.int .i64 (room - (z : Nat))),
        DoesW w2.heap.size wr b d most b2 room er L1 y1 (3 * j + 3) w10,
        DoesW w2.heap.size wr b d most b2 room er L1 y1 (3 * j + 3) w10,
        K3.PureV (.int .i64 er),
        K3.PureV (.int .i64 er),
        K3.PureV (.int .i64 er),
        K3.PureV (.int .i64 er)] := ⟨_, rfl⟩
    obtain ⟨Rs, hRs⟩ := hRL
    refine K3.wp_region_rel2 0 (Nat.zero_le _) (K3.RL Rs) [2, 2, 1, 2, 2, 2, 2, 2, 2, 1, 1, 2, 2, 2, 2] [1, 1, 1, 1, 1, 1, 1, 1, 1, 2, 1, 1, 1, 1, 1] [[], [], [], [], [], [], [], [], [], [2], [], [], [], [], []] (by kernel_rfl) (by kernel_rfl) (K3.RL.st1 (by rw [hRs]; exact K3.st1_cons (K3.PureV.st1 _) (K3.st1_cons (K3.PureV.st1 _) (K3.st1_cons (AtW.st1 _ _) (K3.st1_cons (K3.PureV.st1 _) (K3.st1_cons (K3.PureV.st1 _) (K3.st1_cons (K3.PureV.st1 _) (K3.st1_cons (K3.PureV.st1 _) (K3.st1_cons (K3.PureV.st1 _) (K3.st1_cons (K3.PureV.st1 _) (K3.st1_cons (DoesW.st1 _ _ _ _ _ _ _ _ _ _ _ _) (K3.st1_cons (DoesW.st1 _ _ _ _ _ _ _ _ _ _ _ _) (K3.st1_cons (K3.PureV.st1 _) (K3.st1_cons (K3.PureV.st1 _) (K3.st1_cons (K3.PureV.st1 _) (K3.st1_cons (K3.PureV.st1 _) (K3.st1_nil))))))))))))))))) (K3.RL.st2 (by rw [hRs]; exact K3.st2_cons (K3.PureV.st2 _ _ _) (K3.st2_cons (K3.PureV.st2 _ _ _) (K3.st2_skip (K3.st2_cons (K3.PureV.st2 _ _ _) (K3.st2_cons (K3.PureV.st2 _ _ _) (K3.st2_cons (K3.PureV.st2 _ _ _) (K3.st2_cons (K3.PureV.st2 _ _ _) (K3.st2_cons (K3.PureV.st2 _ _ _) (K3.st2_cons (K3.PureV.st2 _ _ _) (K3.st2_skip (K3.st2_skip (K3.st2_cons (K3.PureV.st2 _ _ _) (K3.st2_cons (K3.PureV.st2 _ _ _) (K3.st2_cons (K3.PureV.st2 _ _ _) (K3.st2_cons (K3.PureV.st2 _ _ _) (K3.st2_nil))))))))))))))))) ?_ ?_ ?_
    · intro i o d hi hd
      have hmem := List.mem_of_getElem? hi
      simp only [List.mem_cons, List.not_mem_nil, or_false] at hmem
      rcases hmem with rfl | rfl | rfl | rfl | rfl | rfl | rfl | rfl | rfl | rfl | rfl | rfl | rfl | rfl | rfl <;> simp at hd <;> (subst hd; simp)
    · refine K3.rel_start (Φ := K3.Hop _ _ _ _ _ _ _) ?_
      refine K3.rel_cons (Φ := K3.Hop _ _ _ _ _ _ _) (k := 0) ?_ ?_
      · intro fa fw hfB hfN hfE hfk hft
        have k8 : fa.eval (.tmp 8) = .pointer (some ⟨b, 0, none⟩) := hft 8 (K3.mem_looks (by kernel_rfl)) (K3.noneed (by kernel_rfl))
        rw [hRs]
        refine K3.hop_plain rfl ?_
        refine K3.out_move rfl ?_
        exact ⟨k8, Below.refl _ _⟩
      refine K3.rel_cons (Φ := K3.Hop _ _ _ _ _ _ _) (k := 1) ?_ ?_
      · intro fa fw hfB hfN hfE hfk hft
        have k10 : fa.eval (.tmp 10) = .pointer (some ⟨b2, 0, none⟩) := hft 10 (K3.mem_looks (by kernel_rfl)) (K3.noneed (by kernel_rfl))
        rw [hRs]
        refine K3.hop_plain rfl ?_
        refine K3.out_move rfl ?_
        exact ⟨k10, Below.refl _ _⟩
      refine K3.rel_cons (Φ := K3.Hop _ _ _ _ _ _ _) (k := 2) ?_ ?_
      · intro fa fw hfB hfN hfE hfk hft
        have hE : Below w10.drew.heap.size w10.drew fw := hfE (by kernel_rfl)
        have k12 : fa.eval (.tmp 12) = .pointer (some ⟨bx, 0, none⟩) := hft 12 (K3.mem_looks (by kernel_rfl)) (K3.noneed (by kernel_rfl))
        rw [hRs]
        refine K3.hop_plain rfl ?_
        have hbx := (hE.block bx (Nat.lt_of_lt_of_le hlt hd4.size)).trans (show w10.drew.heap[bx]? = _ from hbox)
        exact out_load3 rfl k12 (by simp [go_sem, block_cell hbx]) ⟨⟨rfl, hd4.trans (hE.mono hd4.size)⟩, Below.refl _ _⟩
      refine K3.rel_cons (Φ := K3.Hop _ _ _ _ _ _ _) (k := 3) ?_ ?_
      · intro fa fw hfB hfN hfE hfk hft
        have k0 : fa.eval (.tmp 0) = .int .i64 room := hft 0 (K3.mem_looks (by kernel_rfl)) (K3.noneed (by kernel_rfl))
        rw [hRs]
        refine K3.hop_plain rfl ?_
        refine K3.out_move rfl ?_
        exact ⟨k0, Below.refl _ _⟩
      refine K3.rel_cons (Φ := K3.Hop _ _ _ _ _ _ _) (k := 4) ?_ ?_
      · intro fa fw hfB hfN hfE hfk hft
        have k10 : fa.eval (.tmp 10) = .pointer (some ⟨b2, 0, none⟩) := hft 10 (K3.mem_looks (by kernel_rfl)) (K3.noneed (by kernel_rfl))
        rw [hRs]
        refine K3.hop_plain rfl ?_
        refine K3.out_move rfl ?_
        exact ⟨k10, Below.refl _ _⟩
      refine K3.rel_cons (Φ := K3.Hop _ _ _ _ _ _ _) (k := 5) ?_ ?_
      · intro fa fw hfB hfN hfE hfk hft
        have k75 : fa.eval (.tmp 75) = (.pointer (some ⟨b2, 0, none⟩)) := by have := hfk 4 (K3.mem_needs (by kernel_rfl)) _ rfl; rw [hRs] at this; exact this
        rw [hRs]
        refine K3.hop_plain rfl ?_
        have kc : ∀ v, fa.eval (.const v) = v := fun _ => rfl
        generalize fa.eval = ρ at *
        exact K3.out_run (v := .pointer (some ⟨b2, 0, none⟩)) (w' := fw) (by simp [execOp, kc, k75, go_sem]) ⟨rfl, Below.refl _ _⟩
      refine K3.rel_cons (Φ := K3.Hop _ _ _ _ _ _ _) (k := 6) ?_ ?_
      · intro fa fw hfB hfN hfE hfk hft
        have k76 : fa.eval (.tmp 76) = (.pointer (some ⟨b2, 0, none⟩)) := by have := hfk 5 (K3.mem_needs (by kernel_rfl)) _ rfl; rw [hRs] at this; exact this
        rw [hRs]
        refine K3.hop_plain rfl ?_
        have kc : ∀ v, fa.eval (.const v) = v := fun _ => rfl
        generalize fa.eval = ρ at *
        exact K3.out_run (v := .pointer (some ⟨b2, 2, none⟩)) (w' := fw) (by simp [execOp, kc, k76, go_sem]) ⟨rfl, Below.refl _ _⟩
      refine K3.rel_cons (Φ := K3.Hop _ _ _ _ _ _ _) (k := 7) ?_ ?_
      · intro fa fw hfB hfN hfE hfk hft
        have hE : Below w10.drew.heap.size w10.drew fw := hfE (by kernel_rfl)
        have k77 : fa.eval (.tmp 77) = (.pointer (some ⟨b2, 2, none⟩)) := by have := hfk 6 (K3.mem_needs (by kernel_rfl)) _ rfl; rw [hRs] at this; exact this
        rw [hRs]
        refine K3.hop_plain rfl ?_
        have hbx := (hE.block b2 (Nat.lt_of_lt_of_le hlt2 hd4.size)).trans (show w10.drew.heap[b2]? = _ from hbox2)
        exact out_load3 rfl k77 (by simp [rsA, go_sem, block_cell hbx]) ⟨rfl, Below.refl _ _⟩
      refine K3.rel_cons (Φ := K3.Hop _ _ _ _ _ _ _) (k := 8) ?_ ?_
      · intro fa fw hfB hfN hfE hfk hft
        have k74 : fa.eval (.tmp 74) = (.int .i64 room) := by have := hfk 3 (K3.mem_needs (by kernel_rfl)) _ rfl; rw [hRs] at this; exact this
        have k78 : fa.eval (.tmp 78) = (.int .i64 (z : Nat)) := by have := hfk 7 (K3.mem_needs (by kernel_rfl)) _ rfl; rw [hRs] at this; exact this
        rw [hRs]
        refine K3.hop_plain rfl ?_
        have kc : ∀ v, fa.eval (.const v) = v := fun _ => rfl
        generalize fa.eval = ρ at *
        exact K3.out_run (v := .int .i64 (room - (z : Nat))) (w' := fw) (by simp [execOp, kc, k74, k78, hw1, go_sem]) ⟨rfl, Below.refl _ _⟩
      refine K3.rel_cons (Φ := K3.Hop _ _ _ _ _ _ _) (k := 9) ?_ ?_
      · intro fa fw hfB hfN hfE hfk hft
        have k71 : fa.eval (.tmp 71) = (.pointer (some ⟨b, 0, none⟩)) := by have := hfk 0 (K3.mem_needs (by kernel_rfl)) _ rfl; rw [hRs] at this; exact this
        have k72 : fa.eval (.tmp 72) = (.pointer (some ⟨b2, 0, none⟩)) := by have := hfk 1 (K3.mem_needs (by kernel_rfl)) _ rfl; rw [hRs] at this; exact this
        have k73 : (AtW w10 (.agg #[.int .i64 kd, .string key, .string val, .int .i64 nn, .int .i64 fu, .int .i64 kp, .bool tn])) (fa.eval (.tmp 73)) fw := by have := hfk 2 (K3.mem_needs (by kernel_rfl)) _ rfl; rw [hRs] at this; exact this
        have k79 : fa.eval (.tmp 79) = (.int .i64 (room - (z : Nat))) := by have := hfk 8 (K3.mem_needs (by kernel_rfl)) _ rfl; rw [hRs] at this; exact this
        rw [hRs]
        refine K3.hop_plain rfl ?_
        have kf : fa.eval (.func 13) = .func (.func 13) #[] #[] := rfl
        have kc : ∀ v, fa.eval (.const v) = v := fun _ => rfl
        obtain ⟨kq, pb⟩ := k73
        refine K3.out_call (f := 13) (args := #[.pointer (some ⟨b, 0, none⟩), .pointer (some ⟨b2, 0, none⟩), .agg #[.int .i64 kd, .string key, .string val, .int .i64 nn, .int .i64 fu, .int .i64 kp, .bool tn], .int .i64 (room - (z : Nat))]) (by generalize fa.eval = ρ at *; simp [execOp, k71, k72, k79, kq, kf, kc, go_sem]) ?_
        exact (HDo.out fw pb).mono fun e w'' ⟨h1, h2, h3, h4⟩ => ⟨_, h1, ⟨rfl, h2, Nat.le_trans pb.size h3.size, (pb.mono hBle).trans h3, fun q g1 g2 => (h4 q g1 (Nat.lt_of_lt_of_le g2 pb.size)).trans (pb.block q g2)⟩, h3.mono (Nat.zero_le _)⟩
      refine K3.rel_cons (Φ := K3.Hop _ _ _ _ _ _ _) (k := 10) ?_ ?_
      · intro fa fw hfB hfN hfE hfk hft
        have k80 : (DoesW w2.heap.size wr b d most b2 room er L1 y1 (3 * j + 3) w10) (fa.eval (.tmp 80)) fw := by have := hfk 9 (K3.mem_needs (by kernel_rfl)) _ rfl; rw [hRs] at this; exact this
        rw [hRs]
        refine K3.hop_plain rfl ?_
        refine K3.out_move rfl ?_
        exact ⟨k80, Below.refl _ _⟩
      refine K3.rel_cons (Φ := K3.Hop _ _ _ _ _ _ _) (k := 11) ?_ ?_
      · intro fa fw hfB hfN hfE hfk hft
        have k70 : (DoesW w2.heap.size wr b d most b2 room er L1 y1 (3 * j + 3) w10) (fa.eval (.tmp 70)) fw := by have := hfk 10 (K3.mem_needs (by kernel_rfl)) _ rfl; rw [hRs] at this; exact this
        rw [hRs]
        refine K3.hop_plain rfl ?_
        obtain ⟨kq, _⟩ := k70
        generalize fa.eval = ρ at *
        exact K3.out_run (v := .int .i64 er) (w' := fw) (by simp [execOp, kq, go_sem]) ⟨rfl, Below.refl _ _⟩
      refine K3.rel_cons (Φ := K3.Hop _ _ _ _ _ _ _) (k := 12) ?_ ?_
      · intro fa fw hfB hfN hfE hfk hft
        have k70 : (DoesW w2.heap.size wr b d most b2 room er L1 y1 (3 * j + 3) w10) (fa.eval (.tmp 70)) fw := by have := hfk 10 (K3.mem_needs (by kernel_rfl)) _ rfl; rw [hRs] at this; exact this
        rw [hRs]
        refine K3.hop_plain rfl ?_
        obtain ⟨kq, _⟩ := k70
        generalize fa.eval = ρ at *
        exact K3.out_run (v := .int .i64 er) (w' := fw) (by simp [execOp, kq, go_sem]) ⟨rfl, Below.refl _ _⟩
      refine K3.rel_cons (Φ := K3.Hop _ _ _ _ _ _ _) (k := 13) ?_ ?_
      · intro fa fw hfB hfN hfE hfk hft
        have k81 : fa.eval (.tmp 81) = (.int .i64 er) := by have := hfk 11 (K3.mem_needs (by kernel_rfl)) _ rfl; rw [hRs] at this; exact this
        rw [hRs]
        refine K3.hop_plain rfl ?_
        refine K3.out_assign rfl ?_
        exact ⟨k81, Below.refl _ _⟩
      refine K3.rel_cons (Φ := K3.Hop _ _ _ _ _ _ _) (k := 14) ?_ ?_
      · intro fa fw hfB hfN hfE hfk hft
        have k82 : fa.eval (.tmp 82) = (.int .i64 er) := by have := hfk 12 (K3.mem_needs (by kernel_rfl)) _ rfl; rw [hRs] at this; exact this
        rw [hRs]
        refine K3.hop_plain rfl ?_
        refine K3.out_assign rfl ?_
        exact ⟨k82, Below.refl _ _⟩
      exact K3.rel_nil
    · intro fa fw hfB hfy hff hfs hfd
      rw [hRs] at hfy
      have k70 : (DoesW w2.heap.size wr b d most b2 room er L1 y1 (3 * j + 3) w10) (fa.tmps.getD 70 undef) fw := hfy 10 _ rfl (K3.unkilled (by decide))
      have k13 : fa.eval (.tmp 13) = (.int .i64 er) := hfy 13 _ rfl (K3.unkilled (by decide))
      have k14 : fa.eval (.tmp 14) = (.int .i64 er) := hfy 14 _ rfl (K3.unkilled (by decide))
      have e := K3.rel_frame [71, 72, 73, 74, 75, 76, 77, 78, 79, 80, 70, 81, 82, 13, 14] (by kernel_rfl) hff hfs hfd
      simp only [List.foldl] at e
      rw [show fa.tmps.getD 13 undef = .int .i64 er from k13] at e
      rw [show fa.tmps.getD 14 undef = .int .i64 er from k14] at e
      clear hfy hff hfs hfd k13 k14
      generalize fa.tmps.getD 71 undef = x71 at e
      generalize fa.tmps.getD 72 undef = x72 at e
      generalize fa.tmps.getD 73 undef = x73 at e
      generalize fa.tmps.getD 74 undef = x74 at e
      generalize fa.tmps.getD 75 undef = x75 at e
      generalize fa.tmps.getD 76 undef = x76 at e
      generalize fa.tmps.getD 77 undef = x77 at e
      generalize fa.tmps.getD 78 undef = x78 at e
      generalize fa.tmps.getD 79 undef = x79 at e
      generalize fa.tmps.getD 80 undef = x80 at e
      generalize fa.tmps.getD 70 undef = x70 at e k70
      generalize fa.tmps.getD 81 undef = x81 at e
      generalize fa.tmps.getD 82 undef = x82 at e
      simp [List.setIfInBounds_toArray, List.set_cons_succ, List.set_cons_zero] at e
      subst e
      obtain ⟨kq, ⟨h2, A2, z3, htri, hsol, hz3⟩, ksz, kbel, kkeep⟩ := k70
      rw [kq]
      have hbf := kbel.size
      have HTri := Lib.hid htri
      have HSol := Lib.hid hsol
      have Hz3 := Lib.hid hz3
      have hkb := (kkeep bx Hge.out hlt).trans hbox
      have HBd5 := Lib.hid (HBd4.out.trans kbel)
      have d0 := block_cell hkb 0
      clear kq htri hsol hz3 kbel kkeep ksz hfB hkb hd4 hbox hbox2 HDo
      by_cases hk4 : kd = 4
      · have HE4 := Lib.hid (H4.out hk4)
        have k4 : (kd == 4) = true := beq_iff_eq.2 hk4
        have HOp := Lib.hid (open_tri HTri.out (by have := HBd5.out.size; omega) HSol.out (by omega) kN_good kN_new (by omega))
        unfold kN at HOp
        have he1 : er = 0 := HE4.out
        subst he1
        clear hk4
        go_wp2_with fail
        refine HOp.out.mono ?_
        rintro e wg ⟨b3, rfl, ht3, hB⟩
        have HTri2 := Lib.hid ht3
        have HBd6 := Lib.hid (HBd5.out.trans hB)
        clear ht3 hB HOp d0 k4 HTri
        have hbg := HBd6.out.size
        obtain ⟨lv, p3, c3, hlv, hbx3, hlat3⟩ := HTri2.out.list
        subst hlv
        have d1 := block_cell hbx3 1
        rw [show (rsA most (.slice p3 L1.length c3) y1)[1]? = some (.slice p3 L1.length c3) from rfl] at d1
        have HH := Lib.hid (has_duo HTri2.out.duo HBd1.out (by omega) hlat3 (by have := HBd1.out.l; omega))
        rw [decide_eq_true (show L1 = L1 from rfl)] at HH
        clear hbx3 hlat3
        go_wp2_with fail
        refine HH.out.mono ?_
        rintro e wh ⟨rfl, hB⟩
        have HTri3 := Lib.hid (HTri2.out.below hB)
        have HBd7 := Lib.hid (HBd6.out.trans (hB.mono hbg))
        clear hB HH d1 HTri2
        have HRn := Lib.hid (show Calls Try.prog 15 #[.pointer (some ⟨d, 0, none⟩), .string ⟨#[107, 46, 110, 101, 119]⟩] wh (fun e w' => e = .returned (.tuple #[.slice none 0 0, .int .i64 5]) ∧ Below wh.heap.size wh w') from by rw [← kN_draft]; exact read_new HTri3.out.duo HSol.out kN_new)
        have hbh := HBd7.out.size
        go_wp2_with fail
        refine HRn.out.mono ?_
        rintro e wi ⟨rfl, hB⟩
        have HTri4 := Lib.hid (HTri3.out.below hB)
        have HBd8 := Lib.hid (HBd7.out.trans (hB.mono hbh))
        have hbi := HBd8.out.size
        clear hB HRn HTri3
        have HFr := Lib.hid (fun w9 (h9 : Below wi.heap.size wi w9) => (free_duo (HTri4.out.duo.below h9) HSol.out (by omega)).mono (fun e9 w8 hh => (⟨hh.1, h9.trans (hh.2.mono h9.size)⟩ : e9 = .returned (.int .i64 (room - (z3 : Nat))) ∧ Below wi.heap.size wi w8)))
        obtain ⟨lv, p3, c3, hlv, hbx3, hlat3⟩ := HTri4.out.list
        have Hl1 := Lib.hid (fun w9 (h9 : Below wi.heap.size wi w9) => (by have e := (h9.cell (p := ⟨b2, 2, none⟩) (lt_of_block hbx3)).trans (block_cell hbx3 2); simp [rsA] at e; simp [go_sem, e] : (loadVar 3 ⟨b2, 2, none⟩).run Try.prog w9 = .ok (.int .i64 y1) w9))
        have hzr := HSol.out.z
        have hyz := Hz3.out
        have hw3 : IntKind.i64.wrap (room - (z3 : Int)) = room - (z3 : Int) := by simp [IntKind.wrap, IntKind.bits, IntKind.signed]; omega
        rw [hyz] at Hl1
        clear hbx3 hlat3 hlv
        go_wp2_with fail
        refine wp_region_class (Below wi.heap.size wi) (by kernel_rfl) (by kernel_rfl) (Below.refl _ _).drew ?_
        repeat (go_big_quiet_step (first | (intro _; rfl) | (intro hq; exact HFr.out _ hq)))
        refine wpQuiet_load_at rfl 3 (.tmp 118) rfl ⟨b2, 2, none⟩ rfl (.int .i64 (z3 : Nat)) Hl1.out ?_
        simp only [Act.put, List.setIfInBounds_toArray, List.set_cons_succ, List.set_cons_zero]
        repeat (go_big_quiet_step (first | (intro _; rfl)))
        refine wpQuiet_nil ?_
        intro wq hBq
        have HTri5 := Lib.hid (HTri4.out.below hBq)
        have HBd9 := Lib.hid (HBd8.out.trans (hBq.mono hbi))
        clear hBq HFr Hl1
        go_wp2_with fail
        go_roundg (gk - 1)
        case measure => omega
        case rel => exact ⟨j + 1, b3, L1, h2, A2, z3, by omega, by go_num, rfl, HBd1, HL1, Lib.hid (HSol.out.more (by omega)), Lib.hid (by rw [← hyz]; exact HTri5.out), HBd9⟩
      · have k4 : (kd == 4) = false := beq_eq_false_iff_ne.2 hk4
        have HTri2 := HTri
        have HBd6 := HBd5
        obtain ⟨b3, rfl⟩ : ∃ x, x = b := ⟨_, rfl⟩
        obtain ⟨wg, rfl⟩ : ∃ x, x = fw := ⟨_, rfl⟩
        clear hk4
        go_upto_region 18 with fail
        clear d0 k4
        have hbg := HBd6.out.size
        obtain ⟨lv, p3, c3, hlv, hbx3, hlat3⟩ := HTri2.out.list
        subst hlv
        have d1 := block_cell hbx3 1
        rw [show (rsA most (.slice p3 L1.length c3) y1)[1]? = some (.slice p3 L1.length c3) from rfl] at d1
        have HH := Lib.hid (has_duo HTri2.out.duo HBd1.out (by omega) hlat3 (by have := HBd1.out.l; omega))
        rw [decide_eq_true (show L1 = L1 from rfl)] at HH
        clear hbx3 hlat3
        go_wp2_with fail
        refine HH.out.mono ?_
        rintro e wh ⟨rfl, hB⟩
        have HTri3 := Lib.hid (HTri2.out.below hB)
        have HBd7 := Lib.hid (HBd6.out.trans (hB.mono hbg))
        clear hB HH d1 HTri2
        have HRn := Lib.hid (show Calls Try.prog 15 #[.pointer (some ⟨d, 0, none⟩), .string ⟨#[107, 46, 110, 101, 119]⟩] wh (fun e w' => e = .returned (.tuple #[.slice none 0 0, .int .i64 5]) ∧ Below wh.heap.size wh w') from by rw [← kN_draft]; exact read_new HTri3.out.duo HSol.out kN_new)
        have hbh := HBd7.out.size
        go_wp2_with fail
        refine HRn.out.mono ?_
        rintro e wi ⟨rfl, hB⟩
        have HTri4 := Lib.hid (HTri3.out.below hB)
        have HBd8 := Lib.hid (HBd7.out.trans (hB.mono hbh))
        have hbi := HBd8.out.size
        clear hB HRn HTri3
        have HFr := Lib.hid (fun w9 (h9 : Below wi.heap.size wi w9) => (free_duo (HTri4.out.duo.below h9) HSol.out (by omega)).mono (fun e9 w8 hh => (⟨hh.1, h9.trans (hh.2.mono h9.size)⟩ : e9 = .returned (.int .i64 (room - (z3 : Nat))) ∧ Below wi.heap.size wi w8)))
        obtain ⟨lv, p3, c3, hlv, hbx3, hlat3⟩ := HTri4.out.list
        have Hl1 := Lib.hid (fun w9 (h9 : Below wi.heap.size wi w9) => (by have e := (h9.cell (p := ⟨b2, 2, none⟩) (lt_of_block hbx3)).trans (block_cell hbx3 2); simp [rsA] at e; simp [go_sem, e] : (loadVar 3 ⟨b2, 2, none⟩).run Try.prog w9 = .ok (.int .i64 y1) w9))
        have hzr := HSol.out.z
        have hyz := Hz3.out
        have hw3 : IntKind.i64.wrap (room - (z3 : Int)) = room - (z3 : Int) := by simp [IntKind.wrap, IntKind.bits, IntKind.signed]; omega
        rw [hyz] at Hl1
        clear hbx3 hlat3 hlv
        go_wp2_with fail
        refine wp_region_class (Below wi.heap.size wi) (by kernel_rfl) (by kernel_rfl) (Below.refl _ _).drew ?_
        repeat (go_big_quiet_step (first | (intro _; rfl) | (intro hq; exact HFr.out _ hq)))
        refine wpQuiet_load_at rfl 3 (.tmp 118) rfl ⟨b2, 2, none⟩ rfl (.int .i64 (z3 : Nat)) Hl1.out ?_
        simp only [Act.put, List.setIfInBounds_toArray, List.set_cons_succ, List.set_cons_zero]
        repeat (go_big_quiet_step (first | (intro _; rfl)))
        refine wpQuiet_nil ?_
        intro wq hBq
        have HTri5 := Lib.hid (HTri4.out.below hBq)
        have HBd9 := Lib.hid (HBd8.out.trans (hBq.mono hbi))
        clear hBq HFr Hl1
        go_wp2_with fail
        go_roundg (gk - 1)
        case measure => omega
        case rel => exact ⟨j + 1, b3, L1, h2, A2, z3, by omega, by go_num, rfl, HBd1, HL1, Lib.hid (HSol.out.more (by omega)), Lib.hid (by rw [← hyz]; exact HTri5.out), HBd9⟩
end Go.Proofs.Ytbdlmdmbaajcmaa
