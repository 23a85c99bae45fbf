/- Walks: Holds; what imports are of C; to which variant. -/
import Derived.Test.YtpibehfmbmincaaGreatDoorCb
import Derived.Test.YtpibehfmbmincaaGreatDoorOp
import Derived.Test.YtpibehfmbmincaaGreatDoorSc
import Derived.Test.YtpibehfmbmincaaGreatDoorPz
namespace Go.Proofs.YtpibehfmbmincaaGreatDoor
set_option linter.unusedVariables false
open Go.ChangeShapes Go.WideShapes Go.ChangeAt Go.RowKit

abbrev Imp := ByteArray × (ByteArray × (Int × Unit))
def impR : Imp → List Value → Prop := consR strR (consR strR (consR (intR .i64) nilR))
theorem imp_cells {x : Imp} {ecs : List Value} (h : impR x ecs) : ecs = [.string x.1, .string x.2.1, .int .i64 x.2.2.1] := by
  obtain ⟨a, b, rfl, ⟨rfl, _⟩, c, d, rfl, ⟨rfl, _⟩, e, f, rfl, ⟨rfl, _⟩, rfl⟩ := h
  rfl
def isC (x : Imp) : Bool := decide (x.2.1 = ⟨#[67]⟩)
theorem clos_any (x : Imp) (w : World) : Calls Tryz.prog 21 #[.agg #[.string x.1, .string x.2.1, .int .i64 x.2.2.1]] w fun e w' => e = .returned (.bool (isC x)) ∧ Below w.heap.size w w' := by
  obtain ⟨a, b, n, u⟩ := x
  have hBx := (Below.refl w.heap.size w).alloc (Nat.le_refl _) (Obj.cells #[.string a, .string b, .int .i64 n] 52)
  unfold isC
  simp only
  by_cases h : b = ⟨#[67]⟩
  · have h1 := lit_eq (l := [67]) h
    rw [decide_eq_true h]
    clear h
    go_enter Tryz.func21, Tryz.ntmps21
    go_wp2_with fail
    go_ret
    exact ⟨rfl, hBx⟩
  · have h1 := lit_ne (l := [67]) h
    rw [decide_eq_false h]
    clear h
    go_enter Tryz.func21, Tryz.ntmps21
    go_wp2_with fail
    go_ret
    exact ⟨rfl, hBx⟩
def noI : Imp := (⟨#[]⟩, ⟨#[]⟩, 0, ())
set_option maxHeartbeats 400000 in
theorem indexC_any (v : Value) (ss : List Imp) (w : World) (hv : Rows w 3 impR v ss) :
    Calls Tryz.prog 35 #[v, .func (.func 21) #[] #[]] w fun e w' => ∃ r : Int, e = .returned (.int .i64 r) ∧ decide (0 ≤ r) = ss.any isC ∧ Below w.heap.size w w' := by
  obtain ⟨p, cap, rfl, hp⟩ := hv.shape
  have Hp := Lib.hid hp
  obtain ⟨len, hlen⟩ : ∃ len, len = ss.length := ⟨_, rfl⟩
  rw [← hlen] at Hp ⊢
  have Hlen := Lib.hid hlen
  clear hv hp hlen
  go_enter Tryz.func35, Tryz.ntmps35
  go_wp2_with fail
  go_loopg [5, 8] len (fun g _ iv wr => ∃ k : Nat, k + g = len ∧ iv = .int .i64 k ∧ (ss.take k).any isC = false ∧ Below w.heap.size w wr)
  case atStart => exact ⟨0, by omega, rfl, rfl, Below.refl _ _⟩
  case round =>
    obtain ⟨k, hkg, rfl, hno, hB⟩ := hrel
    have Hno := Lib.hid hno
    clear hno
    by_cases hlt : k < len
    · have hltI : (k : Int) < (len : Int) := by omega
      obtain ⟨b, off, rfl, hb, hcap, hmax, hcell⟩ := Hp.out (by omega)
      have hkl : k < ss.length := by have := Hlen.out; omega
      obtain ⟨ecs, he, _, hat⟩ := hcell k ss[k] (List.getElem?_eq_getElem hkl)
      have hec := imp_cells he
      subst hec
      have hbr := Nat.lt_of_lt_of_le hb hB.size
      have hc0 := (hB.cell (p := ⟨b, off + k * 3 + 0, none⟩) hb).trans (hat 0 (by decide))
      have hc1 := (hB.cell (p := ⟨b, off + k * 3 + 1, none⟩) hb).trans (hat 1 (by decide))
      have hc2 := (hB.cell (p := ⟨b, off + k * 3 + 2, none⟩) hb).trans (hat 2 (by decide))
      simp only [Nat.add_zero, List.getElem?_cons_zero, List.getElem?_cons_succ] at hc0 hc1 hc2
      have hts := List.take_succ_eq_append_getElem hkl
      have hmem : ss[k] ∈ ss := List.getElem_mem hkl
      unfold maxLen at hmax
      have HB := fun w1 => clos_any ss[k] w1
      obtain ⟨y, hy⟩ : ∃ y, y = ss[k] := ⟨_, rfl⟩
      rw [← hy] at hc0 hc1 hc2 hts hmem HB
      obtain ⟨ya, yb, yn, yu⟩ := y
      simp only at hc0 hc1 hc2 HB
      have Hts := Lib.hid hts
      have Hmem := Lib.hid hmem
      have HBs := hB.size
      clear hy hts hcell hmem hat he
      cases hby : isC (ya, yb, yn, yu) with
      | true =>
        have hin : ss.any isC = true := List.any_eq_true.2 ⟨_, Hmem.out, hby⟩
        have Hin := Lib.hid hin
        rw [hby] at HB
        have HB' := Lib.hid HB
        clear hin hby HB
        go_wp2_with fail
        refine (HB'.out _).mono ?_
        rintro e w1 ⟨rfl, hB1⟩
        have hB2 := hB.trans (hB1.mono HBs)
        go_wp2_with fail
        go_ret
        exact ⟨_, rfl, by rw [Hin.out]; exact decide_eq_true (by omega), hB2⟩
      | false =>
        have hn : (ss.take (k + 1)).any isC = false := by
          rw [Hts.out, List.any_append, Hno.out]; simp [hby]
        have Hn := Lib.hid hn
        rw [hby] at HB
        have HB' := Lib.hid HB
        clear hn hby HB
        go_wp2_with fail
        refine (HB'.out _).mono ?_
        rintro e w1 ⟨rfl, hB1⟩
        have hB2 := hB.trans (hB1.mono HBs)
        go_wp2_with fail
        go_roundg (gk - 1)
        case measure => omega
        case rel => exact ⟨k + 1, by omega, by go_num, Hn.out, hB2⟩
    · have hin : ss.any isC = false := by
        have hno := Hno.out
        rw [List.take_of_length_le (by have := Hlen.out; omega)] at hno
        exact hno
      have Hin := Lib.hid hin
      have hnI : ¬ (k : Int) < (len : Int) := by omega
      clear hin
      go_wp2_with fail
      go_ret
      exact ⟨_, rfl, by rw [Hin.out]; rfl, hB⟩
theorem containsC_any (v : Value) (ss : List Imp) (w : World) (hv : Rows w 3 impR v ss) :
    Calls Tryz.prog 20 #[v, .func (.func 21) #[] #[]] w fun e w' => e = .returned (.bool (ss.any isC)) ∧ Below w.heap.size w w' := by
  have H := Lib.hid (indexC_any v ss w hv)
  generalize ss.any isC = r at *
  clear hv
  go_enter Tryz.func20, Tryz.ntmps20
  go_wp2_with fail
  refine H.out.mono ?_
  rintro e w1 ⟨x, rfl, hx, hB⟩
  go_wp2_with fail
  go_ret
  exact ⟨by rw [← hx]; rfl, hB⟩

/-! ### Variants -/
def kindN (r : Bool × Bool × ByteArray × ByteArray) : Int := if r.2.1 then 2 else 1
theorem faulty_any (r : Bool × Bool × ByteArray × ByteArray) (w : World) : Calls Tryz.prog 18 #[agg4 r] w fun e w' => e = .returned (.int .i64 (kindN r)) ∧ Below w.heap.size w w' := by
  obtain ⟨g, t, os, ar⟩ := r
  have hBx := (Below.refl w.heap.size w).alloc (Nat.le_refl _) (Obj.cells #[.bool g, .bool t, .string os, .string ar] 44)
  unfold agg4 kindN
  simp only
  cases t
  all_goals
    go_enter Tryz.func18, Tryz.ntmps18
    go_wp2_with fail
    go_ret
    exact ⟨rfl, hBx⟩
def varN (r : Bool × Bool × ByteArray × ByteArray) (pack : ByteArray) : Int := if r.2.1 && endsB pack testE then 3 else kindN r
theorem variant_any (r : Bool × Bool × ByteArray × ByteArray) (pack : ByteArray) (w : World) (hs : pack.size ≤ 1073741824) : Calls Tryz.prog 22 #[agg4 r, .string pack] w fun e w' => e = .returned (.int .i64 (varN r pack)) ∧ Below w.heap.size w w' := by
  have HS := fun w1 => Tryz.strings_HasSuffix pack ⟨#[95, 116, 101, 115, 116]⟩ w1 (by omega)
  rw [ends_lib] at HS
  have ht : endsB pack ⟨#[95, 116, 101, 115, 116]⟩ = endsB pack testE := rfl
  rw [ht] at HS
  have HF := Lib.hid (fun w1 => faulty_any r w1)
  obtain ⟨g, t, os, ar⟩ := r
  have hBx := (Below.refl w.heap.size w).alloc (Nat.le_refl _) (Obj.cells #[.bool g, .bool t, .string os, .string ar] 44)
  unfold varN
  unfold agg4 kindN at HF ⊢
  simp only at HF ⊢
  cases he : endsB pack testE
  all_goals
    rw [he] at HS
    have HS' := Lib.hid HS
    clear HS he ht
    cases t
    all_goals
      go_enter Tryz.func22, Tryz.ntmps22
      go_wp2_with fail
      try (refine (HS'.out _).mono ?_; rintro e w1 ⟨rfl, rfl⟩; go_wp2_with fail)
      try (refine (HF.out _).mono ?_; rintro e w1 ⟨rfl, hB1⟩; go_wp2_with fail)
      go_ret
      first | exact ⟨rfl, hBx⟩ | exact ⟨rfl, hBx.trans (hB1.mono hBx.size)⟩

/-! ### Holds -/
def holdsR (c : Cf) (b : ByteArray) : Bool × Int := if b = ⟨#[]⟩ then (true, 0) else if (parseP b).2 = 0 then evalR ((parseP b).1.filter (onB c)) (parseP b).1 else (false, (parseP b).2)
theorem parseR_bits (s : ByteArray) : (parseR s).1.length ≤ 4096 ∧ ∀ x ∈ (parseR s).1, x.size ≤ 1024 := by
  refine ⟨?_, ?_⟩
  · by_cases h : s.size ≤ 1024
    · exact parse_len h
    · unfold parseR; rw [if_pos (by omega)]; simp
  · rcases parse_err s with h | h
    · obtain ⟨e, he, h2⟩ := parse_code s (parseR s).1 (by rw [← h])
      rw [h2]; exact code_size 1024 (by decide) e he
    · rw [h]; simp
theorem parseP_bits (s : ByteArray) : (parseP s).1.length ≤ 4096 ∧ ∀ x ∈ (parseP s).1, x.size ≤ 1024 := by
  unfold parseP
  split
  · split
    · exact parseR_bits _
    · simp
  · exact parseR_bits _
theorem filt1_take {f : ByteArray → Bool} {l : List ByteArray} {k : Nat} (hk : k < l.length) : (l.take (k + 1)).filter f = (l.take k).filter f ++ (if f (l.getD k ByteArray.empty) then [l.getD k ByteArray.empty] else []) := by
  rw [List.take_succ_eq_append_getElem hk, List.filter_append]
  simp only [List.getD_eq_getElem?_getD, List.getElem?_eq_getElem hk, Option.getD_some, List.filter_cons, List.filter_nil]
set_option maxRecDepth 100000 in
set_option maxHeartbeats 2000000 in
theorem holds_any (c : Cf) (b : ByteArray) (tv : Value) (w : World) (hE : Env w) (hv : Strs w tv c.tags) (hl : c.tags.length ≤ 1073741824) (hb : b.size ≤ 65535) :
    Calls Tryz.prog 19 #[cfV c tv, .string b] w fun e w' => e = .returned (.tuple #[.bool (holdsR c b).1, .int .i64 (holdsR c b).2]) ∧ Below w.heap.size w w' := by
  have hO := fun t w1 (h1 : Below w.heap.size w w1) (ht : t.size ≤ 140737488351232) => on_any c t tv w1 (hE.below h1) (hv.below h1) hl ht
  have hP := fun w1 (h1 : Below w.heap.size w w1) => parse14_any b w1 hb (hE.below h1).max
  obtain ⟨p, cap, rfl, -⟩ := strs_shape hv
  clear hv hE
  obtain ⟨hpl, hpz⟩ := parseP_bits b
  unfold Parsed at hP
  by_cases h0 : b = ⟨#[]⟩
  · have e0 : b.toList.isEmpty = true := by rw [h0, Lib.toList_data]; rfl
    have e : holdsR c b = (true, 0) := by unfold holdsR; rw [if_pos h0]
    rw [e]
    clear e h0 hO hP hpl hpz
    unfold cfV
    have hBx := (Below.refl w.heap.size w).alloc (Nat.le_refl _) (Obj.cells #[.string c.os, .string c.arch, .bool c.cgo, .int .i64 c.lv, .slice p c.tags.length cap] 24)
    go_enter Tryz.func19, Tryz.ntmps19
    go_wp2_with fail
    go_ret2
    exact ⟨rfl, hBx⟩
  have e0 := isEmpty_ne h0
  have hh : holdsR c b = if (parseP b).2 = 0 then evalR ((parseP b).1.filter (onB c)) (parseP b).1 else (false, (parseP b).2) := by unfold holdsR; rw [if_neg h0]
  rw [hh]
  clear hh h0
  obtain ⟨⟨L, er⟩, hr⟩ : ∃ r, parseP b = r := ⟨_, rfl⟩
  rw [hr] at hP hpl hpz ⊢
  simp only at hP hpl hpz ⊢
  clear hr
  have HP := Lib.hid hP
  clear hP
  by_cases h1 : er = 0
  · subst h1
    rw [if_pos rfl]
    have hfl : (L.filter (onB c)).length ≤ 4096 := Nat.le_trans (List.length_filter_le _ _) hpl
    have HEv := Lib.hid (fun v u w1 (hv : Strs w1 v L) (hu : Strs w1 u (L.filter (onB c))) => eval_any v u L _ w1 hv hu (by omega) (by omega) (fun x hx => by have := hpz x hx; omega))
    unfold Evald at HEv
    obtain ⟨R, hR⟩ : ∃ R, R = evalR (L.filter (onB c)) L := ⟨_, rfl⟩
    rw [← hR] at HEv ⊢
    clear hR hfl
    obtain ⟨rx, rc⟩ := R
    simp only at HEv ⊢
    have HO := Lib.hid (fun t w1 (h1 : Below w.heap.size w w1) (ht : t ∈ L) => hO t w1 h1 (by have := hpz t ht; omega))
    unfold cfV at HO ⊢
    clear hO hpz
    obtain ⟨os, arch, cgo, lv, tags⟩ := c
    simp only at HO ⊢
    generalize hcf : (⟨os, arch, cgo, lv, tags⟩ : Cf) = cf at *
    have hBx := (Below.refl w.heap.size w).alloc (Nat.le_refl _) (Obj.cells #[.string os, .string arch, .bool cgo, .int .i64 lv, .slice p tags.length cap] 24)
    have hBxs := hBx.size
    clear hcf
    obtain ⟨n, hn⟩ : ∃ n, n = L.length := ⟨_, rfl⟩
    rw [← hn] at hpl
    have Hn := Lib.hid hn
    clear hn
    go_enter Tryz.func19, Tryz.ntmps19
    go_wp2_with fail
    refine (HP.out _ hBx).mono ?_
    rintro e w1 ⟨v1, rfl, hv1, hB1⟩
    have hold := fun i => old_cell hB1 i
    have hb1 := hBx.trans (hB1.mono hBxs)
    have hs1 := hB1.size
    simp at hs1
    obtain ⟨p1, cap1, rfl, hp1⟩ := strs_shape hv1
    rw [← Hn.out] at hp1 ⊢
    have Hp1 := Lib.hid hp1
    have Hv1 := Lib.hid hv1
    have Hold := Lib.hid hold
    have Hb1 := Lib.hid hb1
    have hb1s := hb1.size
    clear hp1 hv1 hold hB1 hb1
    go_wp2_with fail
    go_loopg [8, 10, 23] n (fun g ov _ iv wr => ∃ i : Nat, i + g = n ∧ iv = .int .i64 i ∧ wr.ownsRow w1.heap.size 9 1 ov ((L.take i).filter (onB cf)).length (((L.take i).filter (onB cf)).map Value.string) ∧ Below w1.heap.size w1 wr)
    case atStart => exact ⟨0, by omega, rfl, World.ownsRow_nil _ _ _ _, Below.refl _ _⟩
    case round =>
      obtain ⟨i, hig, rfl, hown, hB⟩ := hrel
      have hBs := hB.size
      by_cases hlt : i < n
      · have hltI : (i : Int) < (n : Int) := by omega
        obtain ⟨bb, off, rfl, hbb, hcap, hmax, hcell⟩ := Hp1.out (by omega)
        have hkl : i < L.length := by have := Hn.out; omega
        have hc := (hB.cell (p := ⟨bb, off + i, none⟩) hbb).trans (hcell i hlt)
        have hbr := Nat.lt_of_lt_of_le hbb hB.size
        unfold maxLen at hmax
        have q0 := (hB.cell (p := ⟨w.heap.size, 0, none⟩) (by show w.heap.size < w1.heap.size; omega)).trans (Hold.out 0)
        have q1 := (hB.cell (p := ⟨w.heap.size, 1, none⟩) (by show w.heap.size < w1.heap.size; omega)).trans (Hold.out 1)
        have q2 := (hB.cell (p := ⟨w.heap.size, 2, none⟩) (by show w.heap.size < w1.heap.size; omega)).trans (Hold.out 2)
        have q3 := (hB.cell (p := ⟨w.heap.size, 3, none⟩) (by show w.heap.size < w1.heap.size; omega)).trans (Hold.out 3)
        have q4 := (hB.cell (p := ⟨w.heap.size, 4, none⟩) (by show w.heap.size < w1.heap.size; omega)).trans (Hold.out 4)
        simp at q0 q1 q2 q3 q4
        have hblt : w.heap.size < wr.heap.size := by omega
        have HOc := Lib.hid (HO.out _ wr (Hb1.out.trans (hB.mono hb1s)) (getD_mem hkl))
        have Hft := Lib.hid (filt1_take (f := onB cf) hkl)
        have hlen2 : ((L.take i).filter (onB cf)).length ≤ 4096 := by
          have h1 := List.length_filter_le (onB cf) (L.take i)
          rw [List.length_take] at h1; omega
        obtain ⟨x, hx⟩ : ∃ x, x = L.getD i ByteArray.empty := ⟨_, rfl⟩
        rw [← hx] at hc HOc Hft
        have Hown := Lib.hid hown
        clear hx hcell hown
        cases hon : onB cf x with
        | true =>
          rw [hon] at HOc Hft
          clear hon
          go_wp2_with fail
          refine HOc.out.mono ?_
          rintro e w2 ⟨rfl, hB2⟩
          have hown := ownsRow_below Hown.out hB2
          have hb2 := hB.trans (hB2.mono hBs)
          have hb2s := hb2.size
          clear hB2
          go_wp2_with (at_builtin; go_must (refine wpList_append_text rfl (.tmp 30) (.tmp 32) rfl w1.heap.size _ ((L.take i).filter (onB cf)) rfl (hown.alloc _) ⟨w2.heap.size, 0, none⟩ 1 x rfl (one_new _ _ _) (by omega) (by simp; omega) ?_); intro v3 w3 hown3 hgrow3 hwh3; have hb3 := (hb2.alloc hb2s _).grown hgrow3 (by simp; omega) (fun k hk => (hown.lt k hk).1); clear hgrow3 hwh3 hown hB)
          go_roundg (gk - 1)
          case measure => omega
          case rel => exact ⟨i + 1, by omega, by go_num, by
            have e : (L.take (i + 1)).filter (onB cf) = (L.take i).filter (onB cf) ++ [x] := Hft.out
            rw [e]; exact hown3, hb3⟩
        | false =>
          rw [hon] at HOc Hft
          clear hon
          go_wp2_with fail
          refine HOc.out.mono ?_
          rintro e w2 ⟨rfl, hB2⟩
          have hown := ownsRow_below Hown.out hB2
          have hb2 := hB.trans (hB2.mono hBs)
          clear hB2
          go_wp2_with fail
          go_roundg (gk - 1)
          case measure => omega
          case rel => exact ⟨i + 1, by omega, by go_num, by
            have e : (L.take (i + 1)).filter (onB cf) = (L.take i).filter (onB cf) := by rw [Hft.out]; simp
            rw [e]; exact hown, hb2⟩
      · obtain rfl : i = n := by omega
        have hnI : ¬ (i : Int) < (i : Int) := by omega
        rw [show L.take i = L by rw [Hn.out, List.take_length]] at hown
        have Hv2 := Lib.hid (Strs.ofRow hown)
        have Hv1' := Lib.hid (Hv1.out.below hB)
        have hb2 := Hb1.out.trans (hB.mono hb1s)
        have hb2s := hb2.size
        rw [← Hn.out] at Hv1'
        clear hown hB
        go_wp2_with fail
        refine (HEv.out _ _ _ Hv1'.out Hv2.out).mono ?_
        rintro e w4 ⟨rfl, hB4⟩
        have hb4 := hb2.trans (hB4.mono hb2s)
        go_wp2_with fail
        go_ret2
        exact ⟨rfl, hb4⟩
  · rw [if_neg h1]
    have h1b : (er != 0) = true := by rw [bne_iff_ne]; exact h1
    unfold cfV
    have hBx := (Below.refl w.heap.size w).alloc (Nat.le_refl _) (Obj.cells #[.string c.os, .string c.arch, .bool c.cgo, .int .i64 c.lv, .slice p c.tags.length cap] 24)
    have hBxs := hBx.size
    clear hO hpl hpz h1
    go_enter Tryz.func19, Tryz.ntmps19
    go_wp2_with fail
    refine (HP.out _ hBx).mono ?_
    rintro e w1 ⟨v1, rfl, -, hB1⟩
    have hb1 := hBx.trans (hB1.mono hBxs)
    clear hB1
    go_wp2_with fail
    go_ret2
    exact ⟨rfl, hb1⟩
end Go.Proofs.YtpibehfmbmincaaGreatDoor
