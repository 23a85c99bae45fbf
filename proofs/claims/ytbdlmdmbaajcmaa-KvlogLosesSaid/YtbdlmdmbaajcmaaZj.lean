/- A store is opened. -/
import Derived.Test.YtbdlmdmbaajcmaaZi
namespace Go.Proofs.Ytbdlmdmbaajcmaa
set_option linter.unusedVariables false
set_option linter.unusedSimpArgs false
open Go.ChangeShapes Go.WideShapes Go.ChangeAt Go.RowKit

theorem split_bound : ∀ (n : Nat) (l : List UInt8), l.length ≤ n → 8 * (G.splitL l).1.length ≤ l.length ∧ ∀ r ∈ (G.splitL l).1, r.size ≤ 65536 := by
  intro n
  induction n with
  | zero =>
    intro l hl
    cases hw : G.wholeL l with
    | none => rw [G.splitL_none hw]; exact ⟨by simp, by simp⟩
    | some s => have := G.wholeL_le hw; omega
  | succ n ih =>
    intro l hl
    cases hw : G.wholeL l with
    | none => rw [G.splitL_none hw]; exact ⟨by simp, by simp⟩
    | some s =>
      have h1 := G.wholeL_le hw
      rw [G.splitL_some hw]
      obtain ⟨h2, h3⟩ := ih (l.drop (8 + s.size)) (by rw [List.length_drop]; omega)
      rw [List.length_drop] at h2
      refine ⟨by simp only [List.length_cons]; omega, fun r hr => ?_⟩
      rcases List.mem_cons.1 hr with rfl | hr
      · exact h1.2
      · exact h3 r hr
theorem mend_R {n : Nat} {h : Hd} {A : List Ab} (ok : DvOk n h A) (nm : ByteArray) : (mendOut h A nm).2.2.2.length ≤ 131072 ∧ ∀ r ∈ (mendOut h A nm).2.2.2, r.size ≤ 65536 := by
  unfold mendOut
  split
  · split
    · rename_i y hy
      have hyl : y.2.1.length ≤ 1048576 := Nat.le_trans (tot_le (lookA_some hy).1) ok.t
      obtain ⟨h1, h2⟩ := split_bound _ y.2.1 (Nat.le_refl _)
      split
      · dsimp only
        split
        · exact ⟨by omega, h2⟩
        · exact ⟨by simp, by simp⟩
      · exact ⟨by show (G.splitL y.2.1).1.length ≤ _; omega, h2⟩
    · exact ⟨by simp, by simp⟩
  · exact ⟨by simp, by simp⟩
theorem mend_ok {n : Nat} {h : Hd} {A : List Ab} (ok : DvOk n h A) (nd : (A.map (·.1)).Nodup) (nm : ByteArray) : DvOk (n + 1) (mendOut h A nm).2.1 (mendOut h A nm).2.2.1 := by
  unfold mendOut
  split
  · split
    · rename_i y hy
      split
      · refine ok.step (Nat.le_trans (tot_cut nd) ok.t) ?_
        unfold cutA
        split
        · exact Nat.le_trans len_upd (by have := ok.l; omega)
        · have := ok.l; omega
      · exact ok.more (by omega)
    · exact ok.more (by omega)
  · exact ok.more (by omega)
def doSome (L : List En) : List ByteArray → Option (List En)
  | [] => some L
  | r :: R => match doC L r with
    | some L2 => doSome L2 R
    | none => none
theorem doSome_snoc : ∀ (R : List ByteArray) (L : List En) (r : ByteArray), doSome L (R ++ [r]) = (doSome L R).bind (fun L2 => doC L2 r)
  | [], L, r => by
    show (match doC L r with | some L2 => doSome L2 [] | none => none) = doC L r
    cases doC L r <;> rfl
  | a :: R, L, r => by
    show (match doC L a with | some L2 => doSome L2 (R ++ [r]) | none => none) = (match doC L a with | some L2 => doSome L2 R | none => none).bind _
    cases doC L a with
    | none => rfl
    | some L2 => exact doSome_snoc R L2 r
theorem doC_len {L : List En} {r : ByteArray} {L2 : List En} (h : doC L r = some L2) : L2.length ≤ L.length + 1 := by
  have := doG_len L r
  unfold doG at this
  rwa [h] at this
theorem doSome_len : ∀ (R : List ByteArray) (L L2 : List En), doSome L R = some L2 → L2.length ≤ L.length + R.length
  | [], L, L2, h => by injection h with h; subst h; simp
  | a :: R, L, L2, h => by
    have h' : (match doC L a with | some L2 => doSome L2 R | none => none) = some L2 := h
    cases hc : doC L a with
    | none => rw [hc] at h'; cases h'
    | some L3 =>
      rw [hc] at h'
      have h1 := doSome_len R L3 L2 h'
      have h2 := doC_len hc
      rw [List.length_cons]; omega
theorem doSome_bad : ∀ (R : List ByteArray) (L L2 : List En) (j : Nat) (hj : j < R.length), doSome L (R.take j) = some L2 → doC L2 R[j] = none → doSome L R = none
  | a :: R, L, L2, 0, _, h, hc => by
    injection h with h
    subst h
    show (match doC L a with | some L2 => doSome L2 R | none => none) = none
    rw [show doC L a = none from hc]
  | a :: R, L, L2, j + 1, hj, h, hc => by
    have h' : (match doC L a with | some L3 => doSome L3 (R.take j) | none => none) = some L2 := h
    show (match doC L a with | some L2 => doSome L2 R | none => none) = none
    cases hc2 : doC L a with
    | none => rfl
    | some L3 =>
      rw [hc2] at h'
      exact doSome_bad R L3 L2 j (by simpa using hj) h' hc
theorem Kv.stoK {TD TS : Nat → Prop} {b d : Nat} {nm : ByteArray} {m : Int} {h : Hd} {A : List Ab} {L L2 : List En} {w w' : World} (k : Kv TD TS b d nm m h A L w) (hs : St (Gr TS w w') b d nm m L2 w') (hk : Kept TS w w') : Kv TD (Gr TS w w') b d nm m h A L2 w' :=
  ⟨k.dv.kept hk k.dj, hs, fun q hq hs => by
    rcases hs with hs | hs
    · exact k.dj q hq hs
    · have := k.ld q hq; omega, fun q hq => Nat.lt_of_lt_of_le (k.ld q hq) hk.size, fun q hq => by
    rcases hq with hq | hq
    · exact Nat.lt_of_lt_of_le (k.ls q hq) hk.size
    · exact hq.2⟩
abbrev wNew : ByteArray := ⟨#[46, 110, 101, 119]⟩
/-- What Open comes to. -/
def openB (r : Int × Hd × List Ab × List ByteArray) : Int × Hd × List Ab × List En :=
  if r.1 ≠ 0 then (r.1, r.2.1, r.2.2.1, []) else match doSome [] r.2.2.2 with
    | some L => (0, r.2.1, r.2.2.1, L)
    | none => (4, r.2.1, r.2.2.1, [])
def openA (r : Int × Hd × List Ab) (nm : ByteArray) : Int × Hd × List Ab × List En :=
  if r.1 ≠ 0 ∧ r.1 ≠ 5 then (r.1, r.2.1, r.2.2, []) else openB (mendOut r.2.1 r.2.2 nm)
def openOut (h : Hd) (A : List Ab) (nm : ByteArray) : Int × Hd × List Ab × List En :=
  openA (stepA h A (drpA A (nm ++ wNew)) (findA h A (nm ++ wNew)) 1) nm
def OpenEnd (TD : Nat → Prop) (d : Nat) (nm : ByteArray) (m : Int) (o : Int × Hd × List Ab × List En) (w : World) (e : Ending) (w' : World) : Prop :=
  (o.1 = 0 ∧ ∃ b TD' TS', e = .returned (.tuple #[.pointer (some ⟨b, 0, none⟩), .int .i64 0]) ∧ Kv TD' TS' b d nm m o.2.1 o.2.2.1 o.2.2.2 w' ∧ (∀ k, TD' k → Gr TD w w' k) ∧ (∀ k, TS' k → w.heap.size ≤ k) ∧ Kept TD w w') ∨
  (o.1 ≠ 0 ∧ e = .returned (.tuple #[.pointer none, .int .i64 o.1]) ∧ DV (Gr TD w w') d o.2.1 o.2.2.1 w' ∧ Kept TD w w')
set_option maxRecDepth 100000 in
set_option maxHeartbeats 8000000 in
/-- A store is opened. -/
theorem open_any {TD : Nat → Prop} {d : Nat} {h : Hd} {A : List Ab} {w : World} {n : Nat} (dv : DV TD d h A w) (ld : ∀ k, TD k → k < w.heap.size) (ok : DvOk n h A) (hn : n ≤ 999998) (nm : ByteArray) (m : Int) (hnm : nm ≠ ⟨#[]⟩) (hns : nm.size ≤ 28) (hm : 1 ≤ m ∧ m ≤ 4096) :
    Calls Try.prog 12 #[.pointer (some ⟨d, 0, none⟩), .string nm, .int .i64 m] w (OpenEnd TD d nm m (openOut h A nm) w) := by
  have k0 := str_lit nm #[]
  rw [decide_eq_false hnm] at k0
  have k0n := ne_of_eqb k0
  have hsI : ¬ (32 : Int) < (nm.size : Int) + 4 := by omega
  have hm1 : ¬ m < 1 := by omega
  have hm2 : ¬ 4096 < m := by omega
  have hnsz : (nm ++ wNew).size ≤ maxLen := by
    rw [ByteArray.size_append]
    have : wNew.size = 4 := rfl
    unfold maxLen; omega
  have HRm := Lib.hid (cRemove dv ld (ok.hd (by omega)) ok.t (nm ++ wNew) hnsz)
  have hok1 := ok.step (pre := findA h A (nm ++ wNew)) (stays := 1) (A1 := drpA A (nm ++ wNew)) (Nat.le_trans tot_drp ok.t) (Nat.le_trans (drpA_len _ _) (by have := ok.l; omega))
  have hoo : openOut h A nm = openA (stepA h A (drpA A (nm ++ wNew)) (findA h A (nm ++ wNew)) 1) nm := rfl
  rw [hoo]
  obtain ⟨e1, h1, A1, hr1⟩ : ∃ e1 h1 A1, stepA h A (drpA A (nm ++ wNew)) (findA h A (nm ++ wNew)) 1 = (e1, h1, A1) := ⟨_, _, _, rfl⟩
  rw [hr1] at HRm hok1 ⊢
  dsimp only at hok1
  have HLd := Lib.hid ld
  clear hoo hr1 dv hnm hnsz
  by_cases hbad : e1 ≠ 0 ∧ e1 ≠ 5
  · have ho : openA (e1, h1, A1) nm = (e1, h1, A1, []) := by unfold openA; rw [if_pos hbad]
    rw [ho]
    have q0 : (e1 == 0) = false := beq_eq_false_iff_ne.2 hbad.1
    have q0n := ne_of_eqb q0
    have q5 : (e1 == 5) = false := beq_eq_false_iff_ne.2 hbad.2
    have q5n := ne_of_eqb q5
    have HNe := Lib.hid hbad.1
    clear ho hbad
    go_enter Try.func12, Try.ntmps12
    go_wp2_with fail
    refine HRm.out.mono ?_
    rintro e w1 ⟨rfl, hd, hk⟩
    have HE := Lib.hid (show OpenEnd TD d nm m (e1, h1, A1, []) w (.returned (.tuple #[.pointer none, .int .i64 e1])) w1 from .inr ⟨HNe.out, rfl, hd, hk⟩)
    clear hd hk
    dsimp only
    go_wp2_with fail
    go_ret2
    exact HE.out
  have ho : openA (e1, h1, A1) nm = openB (mendOut h1 A1 nm) := by unfold openA; rw [if_neg hbad]
  rw [ho]
  have q05 : (e1 != 0 && e1 != 5) = false := by
    by_cases e : e1 = 0
    · simp [e]
    · by_cases e2 : e1 = 5
      · simp [e2]
      · exact absurd ⟨e, e2⟩ hbad
  have HMe := Lib.hid (show ∀ (TD1 : Nat → Prop) (w1 : World), DV TD1 d h1 A1 w1 → (∀ k, TD1 k → k < w1.heap.size) → Calls Try.prog 32 #[.pointer (some ⟨d, 0, none⟩), .string nm] w1 (MendEnd TD1 d (mendOut h1 A1 nm) w1) from fun TD1 w1 hd hl => mend_any hd hl hok1 (by omega) nm)
  obtain ⟨hRl, hRs⟩ := mend_R hok1 nm
  obtain ⟨e2, h2, A2, R, hr2⟩ : ∃ e2 h2 A2 R, mendOut h1 A1 nm = (e2, h2, A2, R) := ⟨_, _, _, _, rfl⟩
  rw [hr2] at HMe hRl hRs ⊢
  dsimp only at hRl hRs
  clear ho hr2 hok1
  by_cases hb2 : e2 ≠ 0
  · have ho : openB (e2, h2, A2, R) = (e2, h2, A2, []) := by unfold openB; rw [if_pos hb2]
    rw [ho]
    have r0 : (e2 == 0) = false := beq_eq_false_iff_ne.2 hb2
    have r0n := ne_of_eqb r0
    have HNe := Lib.hid hb2
    clear ho hb2
    by_cases h50 : e1 = 0
    · clear hbad
      subst h50
      clear q05
      go_enter Try.func12, Try.ntmps12
      go_wp2_with fail
      refine HRm.out.mono ?_
      rintro e w1 ⟨rfl, hd, hk⟩
      have HK1 := Lib.hid hk
      have HM1 := Lib.hid (HMe.out (Gr TD w w1) w1 hd (fun k hq => by
        rcases hq with hq | hq
        · exact Nat.lt_of_lt_of_le (HLd.out k hq) hk.size
        · exact hq.2))
      clear hd hk HRm
      dsimp only
      go_wp2_with fail
      refine HM1.out.mono ?_
      rintro e w2 ⟨v, rfl, hown, hd2, hk2⟩
      dsimp only at hown hd2
      have HE := Lib.hid (show OpenEnd TD d nm m (e2, h2, A2, []) w (.returned (.tuple #[.pointer none, .int .i64 e2])) w2 from .inr ⟨HNe.out, rfl, hd2.mono (Gr.step HK1.out.size hk2.size), HK1.out.trans hk2⟩)
      clear hd2 hk2 hown
      go_wp2_with fail
      go_ret2
      exact HE.out
    · have q0 : (e1 == 0) = false := beq_eq_false_iff_ne.2 h50
      have q0n := ne_of_eqb q0
      have h55 : e1 = 5 := by
        by_cases h : e1 = 5
        · exact h
        · exact absurd ⟨h50, h⟩ hbad
      clear hbad h50
      subst h55
      clear q05
      go_enter Try.func12, Try.ntmps12
      go_wp2_with fail
      refine HRm.out.mono ?_
      rintro e w1 ⟨rfl, hd, hk⟩
      have HK1 := Lib.hid hk
      have HM1 := Lib.hid (HMe.out (Gr TD w w1) w1 hd (fun k hq => by
        rcases hq with hq | hq
        · exact Nat.lt_of_lt_of_le (HLd.out k hq) hk.size
        · exact hq.2))
      clear hd hk HRm
      dsimp only
      go_wp2_with fail
      refine HM1.out.mono ?_
      rintro e w2 ⟨v, rfl, hown, hd2, hk2⟩
      dsimp only at hown hd2
      have HE := Lib.hid (show OpenEnd TD d nm m (e2, h2, A2, []) w (.returned (.tuple #[.pointer none, .int .i64 e2])) w2 from .inr ⟨HNe.out, rfl, hd2.mono (Gr.step HK1.out.size hk2.size), HK1.out.trans hk2⟩)
      clear hd2 hk2 hown
      go_wp2_with fail
      go_ret2
      exact HE.out
  have he2 : e2 = 0 := by simpa using hb2
  subst he2
  have ho : openB (0, h2, A2, R) = match doSome [] R with | some L => (0, h2, A2, L) | none => (4, h2, A2, []) := by unfold openB; rw [if_neg (by simp)]
  rw [ho]
  have HRs := Lib.hid hRs
  obtain ⟨o9, ho9⟩ : ∃ o9, o9 = (match doSome [] R with | some L => ((0 : Int), h2, A2, L) | none => (4, h2, A2, [])) := ⟨_, rfl⟩
  rw [← ho9]
  have Ho9 := Lib.hid ho9
  clear ho hb2 ho9 hRs
  by_cases h50 : e1 = 0
  · clear hbad
    subst h50
    clear q05
    go_enter Try.func12, Try.ntmps12
    go_wp2_with fail
    refine HRm.out.mono ?_
    rintro e w1 ⟨rfl, hd, hk⟩
    have HK1 := Lib.hid hk
    have HM1 := Lib.hid (HMe.out (Gr TD w w1) w1 hd (fun k hq => by
      rcases hq with hq | hq
      · exact Nat.lt_of_lt_of_le (HLd.out k hq) hk.size
      · exact hq.2))
    clear hd hk HRm
    dsimp only
    go_wp2_with fail
    refine HM1.out.mono ?_
    rintro e w2 ⟨v, rfl, hown, hd2, hk2⟩
    dsimp only at hown hd2
    obtain ⟨⟨pv, cv, rfl⟩, hq⟩ := parts_cells hown
    have Hq := Lib.hid hq
    have HDV := Lib.hid (show DV (Gr TD w w2) d h2 A2 w2 from hd2.mono (Gr.step HK1.out.size hk2.size))
    have HK2 := Lib.hid (show Kept TD w w2 from HK1.out.trans hk2)
    have hn3 := heap_alloc_new w2 (.cells #[.pointer (some ⟨d, 0, none⟩), .string nm, .int .i64 m, .slice none 0 0] 78)
    have hB3 := (Below.refl w2.heap.size w2).alloc (Nat.le_refl _) (.cells #[.pointer (some ⟨d, 0, none⟩), .string nm, .int .i64 m, .slice none 0 0] 78)
    obtain ⟨b, hb⟩ : ∃ b, b = w2.heap.size := ⟨_, rfl⟩
    have hsz3 : (w2.alloc (.cells #[.pointer (some ⟨d, 0, none⟩), .string nm, .int .i64 m, .slice none 0 0] 78)).heap.size = w2.heap.size + 1 := by simp
    have HKv3 := Lib.hid (show ∃ TS : Nat → Prop, Kv (Gr TD w w2) TS b d nm m h2 A2 [] (w2.alloc (.cells #[.pointer (some ⟨d, 0, none⟩), .string nm, .int .i64 m, .slice none 0 0] 78)) ∧ (∀ k, TS k → b ≤ k) ∧ Below b w2 (w2.alloc (.cells #[.pointer (some ⟨d, 0, none⟩), .string nm, .int .i64 m, .slice none 0 0] 78)) from
      ⟨fun k => k = b, ⟨HDV.out.below hB3, ⟨⟨.slice none 0 0, by rw [hb]; exact hn3, ⟨rfl, .inl ⟨rfl, rfl⟩⟩, fun g hg => by cases hg⟩, rfl⟩, fun k hk he => by
        rcases hk with hk | hk
        · have := HLd.out k hk; have := HK2.out.size; omega
        · omega, fun k hk => by
        rcases hk with hk | hk
        · have := HLd.out k hk; have := HK2.out.size; omega
        · omega, fun k hk => by rw [hk, hb, hsz3]; omega⟩, fun k hk => by rw [hk]; exact Nat.le_refl _, by rw [hb]; exact hB3⟩)
    have Hb := Lib.hid hb
    rw [← hb] at hn3
    clear hown hq hd2 hk2 hB3 hn3 hsz3 HM1
    go_upto_region 12 with fail
    generalize w2.alloc (.cells #[.pointer (some ⟨d, 0, none⟩), .string nm, .int .i64 m, .slice none 0 0] 78) = w3 at *
    rw [← hb]
    clear hb
    go_wp2_with fail
    go_loopg [13, 59] R.length (fun g _ iv wr => ∃ (j : Nat) (L : List En), j + g = R.length ∧ iv = .int .i64 j ∧ Hid (doSome [] (R.take j) = some L) ∧ Hid (∃ TS : Nat → Prop, Kv (Gr TD w w2) TS b d nm m h2 A2 L wr ∧ (∀ k, TS k → b ≤ k) ∧ Below b w2 wr))
    case atStart => exact ⟨0, [], by omega, rfl, Lib.hid rfl, HKv3⟩
    case round =>
      obtain ⟨j, L, hjg, rfl, HDo, HKv⟩ := hrel
      by_cases hj : j < R.length
      · have hjI : (j : Int) < (R.length : Int) := by omega
        obtain ⟨g5, c5, hu5, hg0, hg5, hc5, hm5, hcell⟩ := Hq.out (by omega)
        injection hu5 with hu5 _ hu6
        subst hu5
        subst hu6
        obtain ⟨TS, kv, hTS, hBb⟩ := HKv.out
        have hcj := (hBb.cell (p := ⟨g5, j, none⟩) (by show g5 < b; rw [Hb.out]; exact hg5)).trans (hcell j hj)
        have hLl := doSome_len _ _ _ HDo.out
        rw [List.length_take, List.length_nil] at hLl
        have HD := Lib.hid (do_any kv.st kv.ls (by omega) R[j] (by have := HRs.out _ (List.getElem_mem hj); omega))
        have Hkv := Lib.hid kv
        have HTS := Lib.hid hTS
        have HBb := Lib.hid hBb
        have HBad := Lib.hid (fun (hc : doC L R[j] = none) => doSome_bad R [] L j hj HDo.out hc)
        have HGo := Lib.hid (show doSome [] (R.take (j + 1)) = doC L R[j] from by rw [List.take_add_one, List.getElem?_eq_getElem hj]; show doSome [] (R.take j ++ [R[j]]) = _; rw [doSome_snoc, HDo.out]; rfl)
        clear kv hTS hBb hcell HKv hLl
        generalize R[j] = r at *
        cases hdc : doC L r with
        | none =>
          rw [hdc] at HD
          have HO4 := Lib.hid (show o9 = (4, h2, A2, []) from by rw [Ho9.out, HBad.out hdc])
          clear hdc
          go_wp2_with fail
          refine HD.out.mono ?_
          rintro e w4 ⟨rfl, hS, hK⟩
          have HTo := Lib.hid (Hkv.out.stoK hS hK)
          have HE := Lib.hid (show OpenEnd TD d nm m o9 w (.returned (.tuple #[.pointer none, .int .i64 4])) w4 from by
            rw [HO4.out]
            have hBw := HBb.out.trans (hK.below HTS.out (by have := HBb.out.size; rw [Hb.out]; exact this))
            exact .inr ⟨show ((4 : Int) ≠ 0) by decide, rfl, ((Hkv.out.dv.kept hK Hkv.out.dj).mono (fun k hk => hk.imp id (fun x => ⟨x.1, by have := hBw.size; omega⟩))), HK2.out.trans' (Kept.of_below (Hb.out ▸ hBw))⟩)
          clear hS hK
          go_wp2_with fail
          go_ret2
          exact HE.out
        | some L2 =>
          rw [hdc] at HD
          have HG2 := Lib.hid (HGo.out.trans hdc)
          clear hdc
          go_wp2_with fail
          refine HD.out.mono ?_
          rintro e w4 ⟨rfl, hS, hK⟩
          have HTo := Lib.hid (Hkv.out.stoK hS hK)
          have HB4 := Lib.hid (HBb.out.trans (hK.below HTS.out (by have := HBb.out.size; rw [Hb.out]; exact this)))
          clear hS hK
          go_wp2_with fail
          go_roundg (gk - 1)
          case measure => omega
          case rel =>
            refine ⟨j + 1, L2, by omega, by go_num, HG2, Lib.hid ?_⟩
            exact ⟨Gr TS wr w4, HTo.out, fun k hk => by
              rcases hk with hk | hk
              · exact HTS.out k hk
              · have := HBb.out.size; rw [Hb.out]; omega, HB4.out⟩
      · obtain rfl : j = R.length := by omega
        have hjI : ¬ (R.length : Int) < (R.length : Int) := by omega
        have HE := Lib.hid (show OpenEnd TD d nm m o9 w (.returned (.tuple #[.pointer (some ⟨b, 0, none⟩), .int .i64 0])) wr from by
          obtain ⟨TS, kv, hTS, hBb⟩ := HKv.out
          have hd := HDo.out
          rw [List.take_length] at hd
          have ho : o9 = (0, h2, A2, L) := by rw [Ho9.out, hd]
          rw [ho]
          exact .inl ⟨rfl, b, _, TS, rfl, kv, fun k hk => hk.imp id (fun x => ⟨x.1, by have := hBb.size; omega⟩), fun k hk => by have := hTS k hk; rw [Hb.out] at this; have := HK2.out.size; omega, HK2.out.trans' (Kept.of_below (Hb.out ▸ hBb))⟩)
        go_wp2_with fail
        go_ret2
        exact HE.out
  · have q0 : (e1 == 0) = false := beq_eq_false_iff_ne.2 h50
    have q0n := ne_of_eqb q0
    have h55 : e1 = 5 := by
      by_cases h : e1 = 5
      · exact h
      · exact absurd ⟨h50, h⟩ hbad
    clear hbad h50
    subst h55
    clear q05
    go_enter Try.func12, Try.ntmps12
    go_wp2_with fail
    refine HRm.out.mono ?_
    rintro e w1 ⟨rfl, hd, hk⟩
    have HK1 := Lib.hid hk
    have HM1 := Lib.hid (HMe.out (Gr TD w w1) w1 hd (fun k hq => by
      rcases hq with hq | hq
      · exact Nat.lt_of_lt_of_le (HLd.out k hq) hk.size
      · exact hq.2))
    clear hd hk HRm
    dsimp only
    go_wp2_with fail
    refine HM1.out.mono ?_
    rintro e w2 ⟨v, rfl, hown, hd2, hk2⟩
    dsimp only at hown hd2
    obtain ⟨⟨pv, cv, rfl⟩, hq⟩ := parts_cells hown
    have Hq := Lib.hid hq
    have HDV := Lib.hid (show DV (Gr TD w w2) d h2 A2 w2 from hd2.mono (Gr.step HK1.out.size hk2.size))
    have HK2 := Lib.hid (show Kept TD w w2 from HK1.out.trans hk2)
    have hn3 := heap_alloc_new w2 (.cells #[.pointer (some ⟨d, 0, none⟩), .string nm, .int .i64 m, .slice none 0 0] 78)
    have hB3 := (Below.refl w2.heap.size w2).alloc (Nat.le_refl _) (.cells #[.pointer (some ⟨d, 0, none⟩), .string nm, .int .i64 m, .slice none 0 0] 78)
    obtain ⟨b, hb⟩ : ∃ b, b = w2.heap.size := ⟨_, rfl⟩
    have hsz3 : (w2.alloc (.cells #[.pointer (some ⟨d, 0, none⟩), .string nm, .int .i64 m, .slice none 0 0] 78)).heap.size = w2.heap.size + 1 := by simp
    have HKv3 := Lib.hid (show ∃ TS : Nat → Prop, Kv (Gr TD w w2) TS b d nm m h2 A2 [] (w2.alloc (.cells #[.pointer (some ⟨d, 0, none⟩), .string nm, .int .i64 m, .slice none 0 0] 78)) ∧ (∀ k, TS k → b ≤ k) ∧ Below b w2 (w2.alloc (.cells #[.pointer (some ⟨d, 0, none⟩), .string nm, .int .i64 m, .slice none 0 0] 78)) from
      ⟨fun k => k = b, ⟨HDV.out.below hB3, ⟨⟨.slice none 0 0, by rw [hb]; exact hn3, ⟨rfl, .inl ⟨rfl, rfl⟩⟩, fun g hg => by cases hg⟩, rfl⟩, fun k hk he => by
        rcases hk with hk | hk
        · have := HLd.out k hk; have := HK2.out.size; omega
        · omega, fun k hk => by
        rcases hk with hk | hk
        · have := HLd.out k hk; have := HK2.out.size; omega
        · omega, fun k hk => by rw [hk, hb, hsz3]; omega⟩, fun k hk => by rw [hk]; exact Nat.le_refl _, by rw [hb]; exact hB3⟩)
    have Hb := Lib.hid hb
    rw [← hb] at hn3
    clear hown hq hd2 hk2 hB3 hn3 hsz3 HM1
    go_upto_region 12 with fail
    generalize w2.alloc (.cells #[.pointer (some ⟨d, 0, none⟩), .string nm, .int .i64 m, .slice none 0 0] 78) = w3 at *
    rw [← hb]
    clear hb
    go_wp2_with fail
    go_loopg [13, 59] R.length (fun g _ iv wr => ∃ (j : Nat) (L : List En), j + g = R.length ∧ iv = .int .i64 j ∧ Hid (doSome [] (R.take j) = some L) ∧ Hid (∃ TS : Nat → Prop, Kv (Gr TD w w2) TS b d nm m h2 A2 L wr ∧ (∀ k, TS k → b ≤ k) ∧ Below b w2 wr))
    case atStart => exact ⟨0, [], by omega, rfl, Lib.hid rfl, HKv3⟩
    case round =>
      obtain ⟨j, L, hjg, rfl, HDo, HKv⟩ := hrel
      by_cases hj : j < R.length
      · have hjI : (j : Int) < (R.length : Int) := by omega
        obtain ⟨g5, c5, hu5, hg0, hg5, hc5, hm5, hcell⟩ := Hq.out (by omega)
        injection hu5 with hu5 _ hu6
        subst hu5
        subst hu6
        obtain ⟨TS, kv, hTS, hBb⟩ := HKv.out
        have hcj := (hBb.cell (p := ⟨g5, j, none⟩) (by show g5 < b; rw [Hb.out]; exact hg5)).trans (hcell j hj)
        have hLl := doSome_len _ _ _ HDo.out
        rw [List.length_take, List.length_nil] at hLl
        have HD := Lib.hid (do_any kv.st kv.ls (by omega) R[j] (by have := HRs.out _ (List.getElem_mem hj); omega))
        have Hkv := Lib.hid kv
        have HTS := Lib.hid hTS
        have HBb := Lib.hid hBb
        have HBad := Lib.hid (fun (hc : doC L R[j] = none) => doSome_bad R [] L j hj HDo.out hc)
        have HGo := Lib.hid (show doSome [] (R.take (j + 1)) = doC L R[j] from by rw [List.take_add_one, List.getElem?_eq_getElem hj]; show doSome [] (R.take j ++ [R[j]]) = _; rw [doSome_snoc, HDo.out]; rfl)
        clear kv hTS hBb hcell HKv hLl
        generalize R[j] = r at *
        cases hdc : doC L r with
        | none =>
          rw [hdc] at HD
          have HO4 := Lib.hid (show o9 = (4, h2, A2, []) from by rw [Ho9.out, HBad.out hdc])
          clear hdc
          go_wp2_with fail
          refine HD.out.mono ?_
          rintro e w4 ⟨rfl, hS, hK⟩
          have HTo := Lib.hid (Hkv.out.stoK hS hK)
          have HE := Lib.hid (show OpenEnd TD d nm m o9 w (.returned (.tuple #[.pointer none, .int .i64 4])) w4 from by
            rw [HO4.out]
            have hBw := HBb.out.trans (hK.below HTS.out (by have := HBb.out.size; rw [Hb.out]; exact this))
            exact .inr ⟨show ((4 : Int) ≠ 0) by decide, rfl, ((Hkv.out.dv.kept hK Hkv.out.dj).mono (fun k hk => hk.imp id (fun x => ⟨x.1, by have := hBw.size; omega⟩))), HK2.out.trans' (Kept.of_below (Hb.out ▸ hBw))⟩)
          clear hS hK
          go_wp2_with fail
          go_ret2
          exact HE.out
        | some L2 =>
          rw [hdc] at HD
          have HG2 := Lib.hid (HGo.out.trans hdc)
          clear hdc
          go_wp2_with fail
          refine HD.out.mono ?_
          rintro e w4 ⟨rfl, hS, hK⟩
          have HTo := Lib.hid (Hkv.out.stoK hS hK)
          have HB4 := Lib.hid (HBb.out.trans (hK.below HTS.out (by have := HBb.out.size; rw [Hb.out]; exact this)))
          clear hS hK
          go_wp2_with fail
          go_roundg (gk - 1)
          case measure => omega
          case rel =>
            refine ⟨j + 1, L2, by omega, by go_num, HG2, Lib.hid ?_⟩
            exact ⟨Gr TS wr w4, HTo.out, fun k hk => by
              rcases hk with hk | hk
              · exact HTS.out k hk
              · have := HBb.out.size; rw [Hb.out]; omega, HB4.out⟩
      · obtain rfl : j = R.length := by omega
        have hjI : ¬ (R.length : Int) < (R.length : Int) := by omega
        have HE := Lib.hid (show OpenEnd TD d nm m o9 w (.returned (.tuple #[.pointer (some ⟨b, 0, none⟩), .int .i64 0])) wr from by
          obtain ⟨TS, kv, hTS, hBb⟩ := HKv.out
          have hd := HDo.out
          rw [List.take_length] at hd
          have ho : o9 = (0, h2, A2, L) := by rw [Ho9.out, hd]
          rw [ho]
          exact .inl ⟨rfl, b, _, TS, rfl, kv, fun k hk => hk.imp id (fun x => ⟨x.1, by have := hBb.size; omega⟩), fun k hk => by have := hTS k hk; rw [Hb.out] at this; have := HK2.out.size; omega, HK2.out.trans' (Kept.of_below (Hb.out ▸ hBb))⟩)
        go_wp2_with fail
        go_ret2
        exact HE.out
end Go.Proofs.Ytbdlmdmbaajcmaa
