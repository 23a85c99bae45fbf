/- A key gets a value. -/
import Derived.Test.YtbdlmdmbaajcmaaZg
namespace Go.Proofs.Ytbdlmdmbaajcmaa
set_option linter.unusedVariables false
set_option linter.unusedSimpArgs false
open Go.ChangeShapes Go.WideShapes Go.ChangeAt Go.RowKit

theorem wrap_mid (x : Int) (h0 : -16777216 ≤ x) (h : x ≤ 16777216) : IntKind.i64.wrap x = x := by simp [IntKind.wrap, IntKind.bits, IntKind.signed]; omega
structure EldW (w0 : World) (G : List En) (v : Value) (w : World) : Prop where
  o : w.ownsRow w0.heap.size 9 1 v (G.map (fun e => goneB e.1)).length ((G.map (fun e => goneB e.1)).map Value.string)
  bl : Below w0.heap.size w0 w
theorem EldW.st1 (w0 : World) (G : List En) : K3.St1 (EldW w0 G) := fun v w1 w2 h hB => ⟨gen_own_below h.o hB, h.bl.trans (hB.mono h.bl.size)⟩
theorem KvTo.pre {TD TS : Nat → Prop} {b d : Nat} {nm : ByteArray} {m : Int} {h : Hd} {A : List Ab} {L : List En} {w w1 w2 : World} (k : KvTo TD TS b d nm m h A L w1 w2) (hB : Below w.heap.size w w1) : KvTo TD TS b d nm m h A L w w2 := by
  obtain ⟨TD1, TS1, q1, q2, q3, q4⟩ := k
  exact ⟨TD1, TS1, q1, fun k hk => (q2 k hk).imp id (fun x => ⟨Nat.le_trans hB.size x.1, x.2⟩), fun k hk => (q3 k hk).imp id (fun x => ⟨Nat.le_trans hB.size x.1, x.2⟩), (Kept.of_below hB).trans' q4⟩
theorem LogEnd.pre {TD TS : Nat → Prop} {b d : Nat} {nm : ByteArray} {m : Int} {r : Int × Hd × List Ab} {L L2 : List En} {w w1 w2 : World} {e : Ending} (k : LogEnd TD TS b d nm m r L L2 w1 e w2) (hB : Below w.heap.size w w1) : LogEnd TD TS b d nm m r L L2 w e w2 := ⟨k.1, k.2.pre hB⟩
/-- The records of a Put. -/
def putRs (L : List En) (m : Int) (k v : ByteArray) : List ByteArray := (match whereL L k with | some _ => [] | none => (L.take ((L.length : Int) + 1 - m).toNat).map (fun e => goneB e.1)) ++ [putB (k, v)]
/-- What a Put comes to. -/
def putOut (h : Hd) (A : List Ab) (nm : ByteArray) (m : Int) (L : List En) (k v : ByteArray) : (Int × Hd × List Ab) × List En :=
  if 65536 < (putB (k, v)).size then ((3, h, A), L)
  else if getL L k = (v, true) then ((0, h, A), L)
  else (logR h A nm (G.recsL (putRs L m k v)), doAll L (putRs L m k v))
set_option maxRecDepth 100000 in
set_option maxHeartbeats 8000000 in
/-- A key gets a value. -/
theorem put_any {TD TS : Nat → Prop} {b d : Nat} {nm : ByteArray} {m : Int} {h : Hd} {A : List Ab} {L : List En} {w : World} (kv : Kv TD TS b d nm m h A L w) (ho : HdOk h) (ht : totA A ≤ 1048576) (hn : A.length ≤ 1048576) (k v : ByteArray) (hk : k.size ≤ 1073741824) (hv : v.size ≤ 1073741824) (hm : 1 ≤ m ∧ m ≤ 4096) (hl : L.length ≤ 8192) (hkey : ∀ e ∈ L, e.1.size ≤ 65536)
    (hz : ¬ 65536 < (putB (k, v)).size → G.total (putRs L m k v) + 8 * (putRs L m k v).length ≤ 16777216) :
    Calls Try.prog 18 #[.pointer (some ⟨b, 0, none⟩), .string k, .string v] w (LogEnd TD TS b d nm m (putOut h A nm m L k v).1 L (putOut h A nm m L k v).2 w) := by
  obtain ⟨rc, hrc⟩ : ∃ rc, rc = putB (k, v) := ⟨_, rfl⟩
  have HPr := Lib.hid (show ∀ w1, Calls Try.prog 42 #[.agg #[.string k, .string v]] w1 (fun e w' => e = .returned (.string rc) ∧ Below w1.heap.size w1 w') from fun w1 => by rw [hrc]; exact putRecord_any k v w1 hk hv)
  have HKv := Lib.hid kv
  have HWh := Lib.hid (fun w1 (hB : Below w.heap.size w w1) => where_any (kv.st.below hB) (by omega) k)
  by_cases hbig : 65536 < (putB (k, v)).size
  · have ho2 : putOut h A nm m L k v = ((3, h, A), L) := by unfold putOut; rw [if_pos hbig]
    rw [ho2]
    have hbI : (65536 : Int) < (rc.size : Int) := by rw [hrc]; omega
    clear ho2 hbig hrc kv hz hkey
    go_enter Try.func18, Try.ntmps18
    go_wp2_with fail
    refine (HPr.out _).mono ?_
    rintro e w1 ⟨rfl, hB⟩
    have HT := Lib.hid (show LogEnd TD TS b d nm m (3, h, A) L L w (.returned (.int .i64 3)) w1 from ⟨rfl, by rw [if_neg (show ¬ ((3 : Int) = 0) by decide)]; exact HKv.out.to hB⟩)
    clear hB
    go_wp2_with fail
    go_ret
    exact HT.out
  have hbI : ¬ (65536 : Int) < (rc.size : Int) := by rw [hrc]; omega
  have hrz : rc.size ≤ 65536 := by omega
  have hz1 := hz hbig
  cases hw : whereL L k with
  | some i =>
    obtain ⟨hi, hik⟩ := whereL_lt hw
    obtain ⟨x1, x2, hx⟩ : ∃ x1 x2, L[i] = (x1, x2) := ⟨_, _, rfl⟩
    have hxi : L[i]? = some (x1, x2) := by rw [List.getElem?_eq_getElem hi, hx]
    have hget : getL L k = (x2, true) := by unfold getL; rw [hw]; simp [List.getD_eq_getElem?_getD, hxi]
    have hiI : (i : Int) < (L.length : Int) := by omega
    have hi0 : (0 : Int) ≤ (i : Int) := by omega
    have hi1 : ¬ (i : Int) < 0 := by omega
    have ke := str_eqb x2 v
    have HX := Lib.hid hxi
    rw [hw] at HWh
    by_cases hxv : x2 = v
    · have ho2 : putOut h A nm m L k v = ((0, h, A), L) := by unfold putOut; rw [if_neg hbig, if_pos (by rw [hget, hxv])]
      rw [ho2]
      rw [decide_eq_true hxv] at ke
      clear ho2 hbig hrc kv hz hkey hxv hget hx hxi hw hz1
      go_enter Try.func18, Try.ntmps18
      go_wp2_with fail
      refine (HPr.out _).mono ?_
      rintro e w1 ⟨rfl, hB⟩
      have HB := Lib.hid hB
      clear hB
      go_wp2_with fail
      refine (HWh.out _ HB.out).mono ?_
      rintro e w2 ⟨rfl, hB⟩
      have HB2 := Lib.hid (HB.out.trans (hB.mono HB.out.size))
      clear hB HB
      have HT := Lib.hid (show LogEnd TD TS b d nm m (0, h, A) L L w (.returned (.int .i64 0)) w2 from ⟨rfl, by rw [if_pos rfl]; exact HKv.out.to HB2.out⟩)
      obtain ⟨lv, h1, h2, _⟩ := (HKv.out.st.below HB2.out).f
      have hlat := LAt.own (fun x _ => enV_len x) h2
      obtain ⟨p, c, rfl, hp⟩ := gen_shape hlat
      obtain ⟨g, off, rfl⟩ := hp (by omega)
      obtain ⟨hg, hc0, hc1⟩ := hlat.cellsN HX.out
      have c3 := block_cell h1 3
      rw [show (stA d nm m (.slice (some ⟨g, off, none⟩) L.length c))[3]? = some (.slice (some ⟨g, off, none⟩) L.length c) from rfl] at c3
      clear h1 h2 hlat hp
      unfold idxV
      go_wp2_with fail
      go_ret
      exact HT.out
    · have hrs : putRs L m k v = [rc] := by unfold putRs; rw [hw, hrc]; rfl
      have ho2 : putOut h A nm m L k v = (logR h A nm (G.recsL [rc]), doAll L [rc]) := by unfold putOut; rw [if_neg hbig, if_neg (by rw [hget]; intro e; injection e with e; exact hxv e), hrs]
      rw [ho2]
      rw [hrs] at hz1
      rw [decide_eq_false hxv] at ke
      obtain ⟨N0, hN0⟩ : ∃ N0, N0 = w.heap.size := ⟨_, rfl⟩
      obtain ⟨G0, hG0⟩ : ∃ G0 : List ByteArray, G0 = [] := ⟨_, rfl⟩
      have HLog := Lib.hid (show ∀ w4 u, w4.ownsRow N0 9 1 u (G0 ++ [rc]).length ((G0 ++ [rc]).map Value.string) → Below w.heap.size w w4 → Calls Try.prog 44 #[.pointer (some ⟨b, 0, none⟩), u] w4 (LogEnd TD TS b d nm m (logR h A nm (G.recsL [rc])) L (doAll L [rc]) w4) from fun w4 u hu hB => by
        rw [hG0, List.nil_append] at hu
        exact log_any (kv.below hB) ho ht hn [rc] u N0 hu (fun q hq => by rw [hN0]; rcases hq with hq | hq; exact kv.ld q hq; exact kv.ls q hq) hz1 (fun r hr => by rw [List.mem_singleton.1 hr]; omega) (by simp only [List.length_cons, List.length_nil]; omega))
      generalize logR h A nm (G.recsL [rc]) = r9 at *
      generalize doAll L [rc] = L9 at *
      have hG0l : G0.length = 0 := by rw [hG0]; rfl
      have HG0 := Lib.hid hG0
      have HN0 := Lib.hid hN0
      clear ho2 hbig hrc kv hz hkey hxv hget hx hxi hw hz1 hrs hG0 hN0
      go_enter Try.func18, Try.ntmps18
      go_wp2_with fail
      refine (HPr.out _).mono ?_
      rintro e w1 ⟨rfl, hB⟩
      have HB := Lib.hid hB
      clear hB
      go_wp2_with fail
      refine (HWh.out _ HB.out).mono ?_
      rintro e w2 ⟨rfl, hB⟩
      have HBG := Lib.hid (HB.out.trans (hB.mono HB.out.size))
      clear hB HB
      obtain ⟨lv, h1, h2, _⟩ := (HKv.out.st.below HBG.out).f
      have hlat := LAt.own (fun x _ => enV_len x) h2
      obtain ⟨p, c, rfl, hp⟩ := gen_shape hlat
      obtain ⟨g, off, rfl⟩ := hp (by omega)
      obtain ⟨hg, hc0, hc1⟩ := hlat.cellsN HX.out
      have c3 := block_cell h1 3
      rw [show (stA d nm m (.slice (some ⟨g, off, none⟩) L.length c))[3]? = some (.slice (some ⟨g, off, none⟩) L.length c) from rfl] at c3
      have HOG := Lib.hid (show w2.ownsRow N0 9 1 (.slice none 0 0) G0.length (LF (fun s : ByteArray => [Value.string s]) G0) from by rw [HG0.out]; exact ⟨rfl, .inl ⟨rfl, rfl⟩⟩)
      have hbs : N0 ≤ w2.heap.size := by rw [HN0.out]; exact HBG.out.size
      have ken := ne_of_eqb ke
      clear h1 h2 hlat hp
      unfold idxV
      go_wp2_with (at_builtin; go_must (refine wpList_append_gen eltS rfl (.tmp 52) (.tmp 54) rfl rfl N0 _ G0 rfl (gen_own_below HOG.out ((Below.refl w2.heap.size w2).alloc (Nat.le_refl _) (.cells #[.string rc] 9))) _ [rc] (LAt.block rfl rfl (heap_alloc_new w2 (.cells #[.string rc] 9))) rfl (by simp only [List.length_cons, List.length_nil]; omega) (by unfold maxLen; simp only [List.length_cons, List.length_nil]; omega) (by simp; omega) ?_; intro v4 w4 hown4 hgrow4; have hB4 := (HBG.out.trans (((Below.refl w2.heap.size w2).alloc (Nat.le_refl _) (.cells #[.string rc] 9)).mono (by have := HBG.out.size; omega))).grown hgrow4 (by have := HBG.out.size; simp; omega) (fun k hk => by have := (HOG.out.lt k hk).1; have := HN0.out; omega); rw [LF_strs] at hown4; have HLg := Lib.hid (HLog.out w4 _ hown4 hB4); have HB4 := Lib.hid hB4; clear hown4 hgrow4 hB4))
      refine HLg.out.mono ?_
      rintro e w5 hlog
      have HLE := Lib.hid (hlog.pre HB4.out)
      obtain ⟨he, _⟩ := hlog
      subst he
      go_wp2_with fail
      go_ret
      exact HLE.out
  | none =>
    have hget : getL L k = (⟨#[]⟩, false) := by unfold getL; rw [hw]
    obtain ⟨G1, hG1⟩ : ∃ G1, G1 = L.take ((L.length : Int) + 1 - m).toNat := ⟨_, rfl⟩
    obtain ⟨G0, hG0⟩ : ∃ G0 : List ByteArray, G0 = G1.map (fun e => goneB e.1) := ⟨_, rfl⟩
    have hrs : putRs L m k v = G0 ++ [rc] := by unfold putRs; rw [hw, hrc, hG0, hG1]
    have ho2 : putOut h A nm m L k v = (logR h A nm (G.recsL (G0 ++ [rc])), doAll L (G0 ++ [rc])) := by unfold putOut; rw [if_neg hbig, if_neg (by rw [hget]; intro e; injection e with _ e; cases e), hrs]
    rw [ho2]
    rw [hrs] at hz1
    obtain ⟨N0, hN0⟩ : ∃ N0, N0 = w.heap.size := ⟨_, rfl⟩
    have hG0l : G0.length ≤ L.length := by rw [hG0, hG1, List.length_map, List.length_take]; omega
    have hgs : ∀ r ∈ G0, r.size ≤ 1048576 := fun r hr => by
      rw [hG0] at hr
      obtain ⟨e, he, rfl⟩ := List.mem_map.1 hr
      rw [goneB_size]
      have := hkey e (by rw [hG1] at he; exact List.mem_of_mem_take he)
      omega
    have HLog := Lib.hid (show ∀ w4 u, w4.ownsRow N0 9 1 u (G0 ++ [rc]).length ((G0 ++ [rc]).map Value.string) → Below w.heap.size w w4 → Calls Try.prog 44 #[.pointer (some ⟨b, 0, none⟩), u] w4 (LogEnd TD TS b d nm m (logR h A nm (G.recsL (G0 ++ [rc]))) L (doAll L (G0 ++ [rc])) w4) from fun w4 u hu hB => by
      exact log_any (kv.below hB) ho ht hn (G0 ++ [rc]) u N0 hu (fun q hq => by rw [hN0]; rcases hq with hq | hq; exact kv.ld q hq; exact kv.ls q hq) hz1 (fun r hr => by
        rcases List.mem_append.1 hr with hr | hr
        · exact hgs r hr
        · rw [List.mem_singleton.1 hr]; omega) (by rw [List.length_append]; simp only [List.length_cons, List.length_nil]; omega))
    have HEl0 := Lib.hid (show ∀ w1, Below w.heap.size w w1 → Calls Try.prog 43 #[.pointer (some ⟨b, 0, none⟩), .int .i64 ((L.length : Int) + 1 - m)] w1 (EldEnd G1 w1) from fun w1 hB => by
      rw [hG1]; exact eldest_any (kv.st.below hB) (by omega) (fun e he => by have := hkey e he; omega) _)
    generalize logR h A nm (G.recsL (G0 ++ [rc])) = r9 at *
    generalize doAll L (G0 ++ [rc]) = L9 at *
    have HG0 := Lib.hid hG0
    have HN0 := Lib.hid hN0
    have hw1 := wrap_mid ((L.length : Int) + 1) (by omega) (by omega)
    have hw2 := wrap_mid ((L.length : Int) + 1 - m) (by omega) (by omega)
    rw [hw] at HWh
    clear ho2 hbig hrc kv hz hkey hget hw hz1 hrs hG0 hN0 hG1 hgs
    go_enter Try.func18, Try.ntmps18
    go_wp2_with fail
    refine (HPr.out _).mono ?_
    rintro e w1 ⟨rfl, hB⟩
    have HB := Lib.hid hB
    clear hB
    go_wp2_with fail
    refine (HWh.out _ HB.out).mono ?_
    rintro e w2 ⟨rfl, hB⟩
    have HB2 := Lib.hid (HB.out.trans (hB.mono HB.out.size))
    clear hB HB
    obtain ⟨lv, hbox, h2, _⟩ := (HKv.out.st.below HB2.out).f
    obtain ⟨pl, cl, rfl⟩ := own_sliceN h2
    have hlt := lt_of_block hbox
    have HEl := Lib.hid (fun w3 (hB : Below w2.heap.size w2 w3) => HEl0.out w3 (HB2.out.trans (hB.mono HB2.out.size)))
    clear h2
    unfold idxV
    go_upto_region 11 with fail
    generalize w2 = w10 at *
    have hd4 : Below w10.heap.size w10 w10.drew := (Below.refl _ _).drew
    have hRL : ∃ Rs : List (Value → World → Prop), Rs = [K3.PureV (.pointer (some ⟨b, 0, none⟩)),
        K3.PureV (.pointer (some ⟨b, 0, none⟩)),
        K3.PureV (.pointer (some ⟨b, 0, none⟩)),
        K3.PureV (.pointer (some ⟨b, 3, none⟩)),
        K3.PureV (.slice pl L.length cl),
        K3.PureV (.int .i64 (L.length : Nat)),
        K3.PureV (.int .i64 ((L.length : Int) + 1)),
        K3.PureV (.pointer (some ⟨b, 0, none⟩)),
        K3.PureV (.pointer (some ⟨b, 0, none⟩)),
        K3.PureV (.pointer (some ⟨b, 2, none⟩)),
        K3.PureV (.int .i64 m),
        K3.PureV (.int .i64 ((L.length : Int) + 1 - m)),
        EldW w10 G1,
        EldW w10 G1] := ⟨_, rfl⟩
    obtain ⟨Rs, hRs⟩ := hRL
    refine K3.wp_region_rel2 w10.heap.size (Nat.le_refl _) (K3.RL Rs) [2, 2, 2, 2, 2, 2, 2, 2, 2, 2, 2, 2, 1, 1] [1, 1, 1, 1, 1, 1, 1, 1, 1, 1, 1, 1, 1, 1] [] (by kernel_rfl) (by kernel_rfl) (K3.RL.st1 (by rw [hRs]; exact K3.st1_cons (K3.PureV.st1 _) (K3.st1_cons (K3.PureV.st1 _) (K3.st1_cons (K3.PureV.st1 _) (K3.st1_cons (K3.PureV.st1 _) (K3.st1_cons (K3.PureV.st1 _) (K3.st1_cons (K3.PureV.st1 _) (K3.st1_cons (K3.PureV.st1 _) (K3.st1_cons (K3.PureV.st1 _) (K3.st1_cons (K3.PureV.st1 _) (K3.st1_cons (K3.PureV.st1 _) (K3.st1_cons (K3.PureV.st1 _) (K3.st1_cons (K3.PureV.st1 _) (K3.st1_cons (EldW.st1 _ _) (K3.st1_cons (EldW.st1 _ _) (K3.st1_nil)))))))))))))))) (K3.RL.st2 (by rw [hRs]; exact K3.st2_cons (K3.PureV.st2 _ _ _) (K3.st2_cons (K3.PureV.st2 _ _ _) (K3.st2_cons (K3.PureV.st2 _ _ _) (K3.st2_cons (K3.PureV.st2 _ _ _) (K3.st2_cons (K3.PureV.st2 _ _ _) (K3.st2_cons (K3.PureV.st2 _ _ _) (K3.st2_cons (K3.PureV.st2 _ _ _) (K3.st2_cons (K3.PureV.st2 _ _ _) (K3.st2_cons (K3.PureV.st2 _ _ _) (K3.st2_cons (K3.PureV.st2 _ _ _) (K3.st2_cons (K3.PureV.st2 _ _ _) (K3.st2_cons (K3.PureV.st2 _ _ _) (K3.st2_skip (K3.st2_skip (K3.st2_nil)))))))))))))))) ?_ ?_ ?_
    · intro i o d hi hd
      have hmem := List.mem_of_getElem? hi
      simp only [List.mem_cons, List.not_mem_nil, or_false] at hmem
      rcases hmem with rfl | rfl | rfl | rfl | rfl | rfl | rfl | rfl | rfl | rfl | rfl | rfl | rfl | rfl <;> simp at hd <;> (subst hd; simp)
    · refine K3.rel_start (Φ := K3.Hop _ _ _ _ _ _ _) ?_
      refine K3.rel_cons (Φ := K3.Hop _ _ _ _ _ _ _) (k := 0) ?_ ?_
      · intro fa fw hfB hfN hfE hfk hft
        have k0 : fa.eval (.tmp 0) = .pointer (some ⟨b, 0, none⟩) := hft 0 (K3.mem_looks (by kernel_rfl)) (K3.noneed (by kernel_rfl))
        rw [hRs]
        refine K3.hop_plain rfl ?_
        refine K3.out_move rfl ?_
        exact ⟨k0, Below.refl _ _⟩
      refine K3.rel_cons (Φ := K3.Hop _ _ _ _ _ _ _) (k := 1) ?_ ?_
      · intro fa fw hfB hfN hfE hfk hft
        have k0 : fa.eval (.tmp 0) = .pointer (some ⟨b, 0, none⟩) := hft 0 (K3.mem_looks (by kernel_rfl)) (K3.noneed (by kernel_rfl))
        rw [hRs]
        refine K3.hop_plain rfl ?_
        refine K3.out_move rfl ?_
        exact ⟨k0, Below.refl _ _⟩
      refine K3.rel_cons (Φ := K3.Hop _ _ _ _ _ _ _) (k := 2) ?_ ?_
      · intro fa fw hfB hfN hfE hfk hft
        have k39 : fa.eval (.tmp 39) = (.pointer (some ⟨b, 0, none⟩)) := by have := hfk 1 (K3.mem_needs (by kernel_rfl)) _ rfl; rw [hRs] at this; exact this
        rw [hRs]
        refine K3.hop_plain rfl ?_
        have kc : ∀ v, fa.eval (.const v) = v := fun _ => rfl
        generalize fa.eval = ρ at *
        exact K3.out_run (v := .pointer (some ⟨b, 0, none⟩)) (w' := fw) (by simp [execOp, kc, k39, go_sem]) ⟨rfl, Below.refl _ _⟩
      refine K3.rel_cons (Φ := K3.Hop _ _ _ _ _ _ _) (k := 3) ?_ ?_
      · intro fa fw hfB hfN hfE hfk hft
        have k40 : fa.eval (.tmp 40) = (.pointer (some ⟨b, 0, none⟩)) := by have := hfk 2 (K3.mem_needs (by kernel_rfl)) _ rfl; rw [hRs] at this; exact this
        rw [hRs]
        refine K3.hop_plain rfl ?_
        have kc : ∀ v, fa.eval (.const v) = v := fun _ => rfl
        generalize fa.eval = ρ at *
        exact K3.out_run (v := .pointer (some ⟨b, 3, none⟩)) (w' := fw) (by simp [execOp, kc, k40, go_sem]) ⟨rfl, Below.refl _ _⟩
      refine K3.rel_cons (Φ := K3.Hop _ _ _ _ _ _ _) (k := 4) ?_ ?_
      · intro fa fw hfB hfN hfE hfk hft
        have hE : Below w10.drew.heap.size w10.drew fw := hfE (by kernel_rfl)
        have k41 : fa.eval (.tmp 41) = (.pointer (some ⟨b, 3, none⟩)) := by have := hfk 3 (K3.mem_needs (by kernel_rfl)) _ rfl; rw [hRs] at this; exact this
        rw [hRs]
        refine K3.hop_plain rfl ?_
        have hbx := (hE.block b (Nat.lt_of_lt_of_le hlt hd4.size)).trans (show w10.drew.heap[b]? = _ from hbox)
        exact out_load3 rfl k41 (by simp [stA, go_sem, block_cell hbx]) ⟨rfl, Below.refl _ _⟩
      refine K3.rel_cons (Φ := K3.Hop _ _ _ _ _ _ _) (k := 5) ?_ ?_
      · intro fa fw hfB hfN hfE hfk hft
        have k42 : fa.eval (.tmp 42) = (.slice pl L.length cl) := by have := hfk 4 (K3.mem_needs (by kernel_rfl)) _ rfl; rw [hRs] at this; exact this
        rw [hRs]
        refine K3.hop_plain rfl ?_
        have kc : ∀ v, fa.eval (.const v) = v := fun _ => rfl
        generalize fa.eval = ρ at *
        exact K3.out_run (v := .int .i64 (L.length : Nat)) (w' := fw) (by simp [execOp, kc, k42, go_sem]) ⟨rfl, Below.refl _ _⟩
      refine K3.rel_cons (Φ := K3.Hop _ _ _ _ _ _ _) (k := 6) ?_ ?_
      · intro fa fw hfB hfN hfE hfk hft
        have k43 : fa.eval (.tmp 43) = (.int .i64 (L.length : Nat)) := by have := hfk 5 (K3.mem_needs (by kernel_rfl)) _ rfl; rw [hRs] at this; exact this
        rw [hRs]
        refine K3.hop_plain rfl ?_
        have kc : ∀ v, fa.eval (.const v) = v := fun _ => rfl
        generalize fa.eval = ρ at *
        exact K3.out_run (v := .int .i64 ((L.length : Int) + 1)) (w' := fw) (by simp [execOp, kc, k43, hw1, go_sem]) ⟨rfl, Below.refl _ _⟩
      refine K3.rel_cons (Φ := K3.Hop _ _ _ _ _ _ _) (k := 7) ?_ ?_
      · intro fa fw hfB hfN hfE hfk hft
        have k0 : fa.eval (.tmp 0) = .pointer (some ⟨b, 0, none⟩) := hft 0 (K3.mem_looks (by kernel_rfl)) (K3.noneed (by kernel_rfl))
        rw [hRs]
        refine K3.hop_plain rfl ?_
        refine K3.out_move rfl ?_
        exact ⟨k0, Below.refl _ _⟩
      refine K3.rel_cons (Φ := K3.Hop _ _ _ _ _ _ _) (k := 8) ?_ ?_
      · intro fa fw hfB hfN hfE hfk hft
        have k45 : fa.eval (.tmp 45) = (.pointer (some ⟨b, 0, none⟩)) := by have := hfk 7 (K3.mem_needs (by kernel_rfl)) _ rfl; rw [hRs] at this; exact this
        rw [hRs]
        refine K3.hop_plain rfl ?_
        have kc : ∀ v, fa.eval (.const v) = v := fun _ => rfl
        generalize fa.eval = ρ at *
        exact K3.out_run (v := .pointer (some ⟨b, 0, none⟩)) (w' := fw) (by simp [execOp, kc, k45, go_sem]) ⟨rfl, Below.refl _ _⟩
      refine K3.rel_cons (Φ := K3.Hop _ _ _ _ _ _ _) (k := 9) ?_ ?_
      · intro fa fw hfB hfN hfE hfk hft
        have k46 : fa.eval (.tmp 46) = (.pointer (some ⟨b, 0, none⟩)) := by have := hfk 8 (K3.mem_needs (by kernel_rfl)) _ rfl; rw [hRs] at this; exact this
        rw [hRs]
        refine K3.hop_plain rfl ?_
        have kc : ∀ v, fa.eval (.const v) = v := fun _ => rfl
        generalize fa.eval = ρ at *
        exact K3.out_run (v := .pointer (some ⟨b, 2, none⟩)) (w' := fw) (by simp [execOp, kc, k46, go_sem]) ⟨rfl, Below.refl _ _⟩
      refine K3.rel_cons (Φ := K3.Hop _ _ _ _ _ _ _) (k := 10) ?_ ?_
      · intro fa fw hfB hfN hfE hfk hft
        have hE : Below w10.drew.heap.size w10.drew fw := hfE (by kernel_rfl)
        have k47 : fa.eval (.tmp 47) = (.pointer (some ⟨b, 2, none⟩)) := by have := hfk 9 (K3.mem_needs (by kernel_rfl)) _ rfl; rw [hRs] at this; exact this
        rw [hRs]
        refine K3.hop_plain rfl ?_
        have hbx := (hE.block b (Nat.lt_of_lt_of_le hlt hd4.size)).trans (show w10.drew.heap[b]? = _ from hbox)
        exact out_load3 rfl k47 (by simp [stA, go_sem, block_cell hbx]) ⟨rfl, Below.refl _ _⟩
      refine K3.rel_cons (Φ := K3.Hop _ _ _ _ _ _ _) (k := 11) ?_ ?_
      · intro fa fw hfB hfN hfE hfk hft
        have k44 : fa.eval (.tmp 44) = (.int .i64 ((L.length : Int) + 1)) := by have := hfk 6 (K3.mem_needs (by kernel_rfl)) _ rfl; rw [hRs] at this; exact this
        have k48 : fa.eval (.tmp 48) = (.int .i64 m) := by have := hfk 10 (K3.mem_needs (by kernel_rfl)) _ rfl; rw [hRs] at this; exact this
        rw [hRs]
        refine K3.hop_plain rfl ?_
        have kc : ∀ v, fa.eval (.const v) = v := fun _ => rfl
        generalize fa.eval = ρ at *
        exact K3.out_run (v := .int .i64 ((L.length : Int) + 1 - m)) (w' := fw) (by simp [execOp, kc, k44, k48, hw2, go_sem]) ⟨rfl, Below.refl _ _⟩
      refine K3.rel_cons (Φ := K3.Hop _ _ _ _ _ _ _) (k := 12) ?_ ?_
      · intro fa fw hfB hfN hfE hfk hft
        have hE : Below w10.drew.heap.size w10.drew fw := hfE (by kernel_rfl)
        have k38 : fa.eval (.tmp 38) = (.pointer (some ⟨b, 0, none⟩)) := by have := hfk 0 (K3.mem_needs (by kernel_rfl)) _ rfl; rw [hRs] at this; exact this
        have k49 : fa.eval (.tmp 49) = (.int .i64 ((L.length : Int) + 1 - m)) := by have := hfk 11 (K3.mem_needs (by kernel_rfl)) _ rfl; rw [hRs] at this; exact this
        rw [hRs]
        refine K3.hop_plain rfl ?_
        have hE2 := hd4.trans (hE.mono hd4.size)
        have kf : fa.eval (.func 43) = .func (.func 43) #[] #[] := rfl
        refine K3.out_call (f := 43) (args := #[.pointer (some ⟨b, 0, none⟩), .int .i64 ((L.length : Int) + 1 - m)]) (by generalize fa.eval = ρ at *; simp [execOp, k38, k49, kf, go_sem]) ?_
        exact (HEl.out fw hE2).mono fun e w'' ⟨v', h1, h2, h3⟩ => ⟨v', h1, ⟨own_base h2 hE2.size, hE2.trans (h3.mono hE2.size)⟩, h3⟩
      refine K3.rel_cons (Φ := K3.Hop _ _ _ _ _ _ _) (k := 13) ?_ ?_
      · intro fa fw hfB hfN hfE hfk hft
        have k50 : (EldW w10 G1) (fa.eval (.tmp 50)) fw := by have := hfk 12 (K3.mem_needs (by kernel_rfl)) _ rfl; rw [hRs] at this; exact this
        rw [hRs]
        refine K3.hop_plain rfl ?_
        refine K3.out_assign rfl ?_
        exact ⟨k50, Below.refl _ _⟩
      exact K3.rel_nil
    · intro fa fw hfB hfy hff hfs hfd
      rw [hRs] at hfy
      have k9 : EldW w10 G1 (fa.tmps.getD 9 undef) fw := hfy 13 _ rfl (K3.unkilled (by decide))
      have e := K3.rel_frame [38, 39, 40, 41, 42, 43, 44, 45, 46, 47, 48, 49, 50, 9] (by kernel_rfl) hff hfs hfd
      simp only [List.foldl] at e
      clear hfy hff hfs hfd 
      generalize fa.tmps.getD 38 undef = x38 at e
      generalize fa.tmps.getD 39 undef = x39 at e
      generalize fa.tmps.getD 40 undef = x40 at e
      generalize fa.tmps.getD 41 undef = x41 at e
      generalize fa.tmps.getD 42 undef = x42 at e
      generalize fa.tmps.getD 43 undef = x43 at e
      generalize fa.tmps.getD 44 undef = x44 at e
      generalize fa.tmps.getD 45 undef = x45 at e
      generalize fa.tmps.getD 46 undef = x46 at e
      generalize fa.tmps.getD 47 undef = x47 at e
      generalize fa.tmps.getD 48 undef = x48 at e
      generalize fa.tmps.getD 49 undef = x49 at e
      generalize fa.tmps.getD 50 undef = x50 at e
      generalize fa.tmps.getD 9 undef = x9 at e k9
      simp [List.setIfInBounds_toArray, List.set_cons_succ, List.set_cons_zero] at e
      subst e
      obtain ⟨ko, kb⟩ := k9
      have HBG := Lib.hid (HB2.out.trans (kb.mono HB2.out.size))
      have HOG := Lib.hid (show fw.ownsRow N0 9 1 x9 G0.length (LF (fun s : ByteArray => [Value.string s]) G0) from by rw [LF_strs, HG0.out]; exact own_base ko (by rw [HN0.out]; exact HB2.out.size))
      have hbs : N0 ≤ fw.heap.size := by rw [HN0.out]; exact HBG.out.size
      clear ko kb hfB hd4 hbox HEl HEl0
      go_wp2_with (at_builtin; go_must (refine wpList_append_gen eltS rfl (.tmp 52) (.tmp 54) rfl rfl N0 _ G0 rfl (gen_own_below HOG.out ((Below.refl fw.heap.size fw).alloc (Nat.le_refl _) (.cells #[.string rc] 9))) _ [rc] (LAt.block rfl rfl (heap_alloc_new fw (.cells #[.string rc] 9))) rfl (by simp only [List.length_cons, List.length_nil]; omega) (by unfold maxLen; simp only [List.length_cons, List.length_nil]; omega) (by simp; omega) ?_; intro v4 w4 hown4 hgrow4; have hB4 := (HBG.out.trans (((Below.refl fw.heap.size fw).alloc (Nat.le_refl _) (.cells #[.string rc] 9)).mono (by have := HBG.out.size; omega))).grown hgrow4 (by have := HBG.out.size; simp; omega) (fun k hk => by have := (HOG.out.lt k hk).1; have := HN0.out; omega); rw [LF_strs] at hown4; have HLg := Lib.hid (HLog.out w4 _ hown4 hB4); have HB4 := Lib.hid hB4; clear hown4 hgrow4 hB4))
      refine HLg.out.mono ?_
      rintro e w5 hlog
      have HLE := Lib.hid (hlog.pre HB4.out)
      obtain ⟨he, _⟩ := hlog
      subst he
      go_wp2_with fail
      go_ret
      exact HLE.out
end Go.Proofs.Ytbdlmdmbaajcmaa
