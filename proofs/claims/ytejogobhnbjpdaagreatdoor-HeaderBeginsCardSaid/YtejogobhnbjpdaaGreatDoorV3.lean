/- Walks: the document's Imports; The last line that is blank, by the document; Walks: the document's Alone, Spaced; Walks: the document's Build; Walks: the document's Build. -/
import Derived.Test.YtejogobhnbjpdaaGreatDoorV2
import Derived.Test.YtejogobhnbjpdaaGreatDoorV1
namespace Go.Proofs.YtejogobhnbjpdaaGreatDoor
set_option linter.unusedVariables false
set_option linter.unusedSimpArgs false
open Go.ChangeShapes Go.WideShapes Go.ChangeAt Go.RowKit

theorem lat_drop {w : World} {g off cap : Nat} {L : List Tk} (h : LAt 3 tkV w (.slice (some ⟨g, off, none⟩) L.length cap) L) {n : Nat} (hn : n < L.length) : LAt 3 tkV w (.slice (some ⟨g, off + n * 3, none⟩) (L.drop n).length (cap - n)) (L.drop n) := by
  have hd : (L.drop n).length = L.length - n := List.length_drop
  refine ⟨fun x hx => h.1 x (List.mem_of_mem_drop hx), ?_⟩
  rcases h.2 with ⟨p, cap', hv, h0⟩ | ⟨b, off', cap', hv, hb, h1, h2, h3⟩
  · rw [h0] at hn; cases hn
  · injection hv with hv1 hv2 hv3
    injection hv1 with hv1
    injection hv1 with hv4 hv5
    subst hv4; subst hv5; subst hv3
    refine .inr ⟨g, off + n * 3, cap - n, rfl, hb, by omega, by omega, fun j x hx => ?_⟩
    have e : LF tkV L = LF tkV (L.take n) ++ LF tkV (L.drop n) := by
      have := LF_app (fl := tkV) (L.take n) (L.drop n)
      rw [List.take_append_drop] at this
      exact this
    have hl : (LF tkV (L.take n)).length = n * 3 := by
      rw [LF_len (L.take n) (fun y _ => tkV_len y), List.length_take, Nat.min_eq_left (by omega)]
    have := h3 (n * 3 + j) x (by rw [e, List.getElem?_append_right (by omega), hl, Nat.add_sub_cancel_left]; exact hx)
    rw [← Nat.add_assoc] at this
    exact this
theorem tk_drop (L : List Tk) (n i : Nat) : tk (L.drop n) i = tk L (n + i) := by
  unfold tk
  rw [List.getD_eq_getElem?_getD, List.getD_eq_getElem?_getD, List.getElem?_drop]
theorem end_drop {L : List Tk} (F : EndT L) {n : Nat} (hn : n < L.length) : EndT (L.drop n) := by
  have hd : (L.drop n).length = L.length - n := List.length_drop
  refine ⟨by omega, fun i x hx h0 h7 => ?_, fun i x hx h4 => ?_⟩
  · rw [List.getElem?_drop] at hx
    have := F.on (n + i) x hx h0 h7
    omega
  · rw [List.getElem?_drop] at hx
    exact F.st (n + i) x hx h4
theorem specR_drop (L : List Tk) (n : Nat) : (specR (L.drop n) 0).1 = (specR L n).1 ∧ n + (specR (L.drop n) 0).2 = (specR L n).2 := by
  have e : n + nx (named (tk (L.drop n) 0)) 0 = nx (named (tk L n)) n := by
    rw [tk_drop, Nat.add_zero]
    unfold nx
    split <;> omega
  unfold specR
  rw [tk_drop L n (nx _ 0), e, tk_drop, Nat.add_zero]
  split
  · exact ⟨rfl, by show n + (nx _ 0 + 1) = nx _ n + 1; rw [tk_drop, Nat.add_zero] at e; omega⟩
  · rw [tk_drop, Nat.add_zero] at e
    exact ⟨rfl, e⟩
theorem declR_imp {L : List Tk} (F : EndT L) {n : Nat} {I : List Im} (hn : n < L.length) (hI : I.length ≤ n) (hc : tIs 1 wImport (tk L n) = true) :
    n + 1 < L.length ∧ n + 1 ≤ (specs1 L (n + 1) I).2.1 ∧ (specs1 L (n + 1) I).2.1 < L.length ∧ (specs1 L (n + 1) I).2.2.length ≤ (specs1 L (n + 1) I).2.1 ∧
    declR L n I = if (specs1 L (n + 1) I).1 = true ∧ tSemi (tk L (specs1 L (n + 1) I).2.1) = true then declR L ((specs1 L (n + 1) I).2.1 + 1) (specs1 L (n + 1) I).2.2 else (false, (specs1 L (n + 1) I).2.1, (specs1 L (n + 1) I).2.2) := by
  have hl := F.is hn (by omega) (by omega) hc
  obtain ⟨h1, h2, h3⟩ := specs1_ok F (i := n + 1) (I := I) hl (by omega)
  refine ⟨hl, h1, h2, h3, ?_⟩
  by_cases hs : (specs1 L (n + 1) I).1 = true
  · rw [declR_on I hn hc (by omega) hs]
    by_cases h4 : tSemi (tk L (specs1 L (n + 1) I).2.1) = true
    · rw [if_pos h4, if_pos ⟨hs, h4⟩]
    · rw [if_neg h4, if_neg (fun h => h4 h.2)]
  · rw [if_neg (fun h => hs h.1)]
    rw [Bool.not_eq_true] at hs
    exact declR_bad I hn hc (by omega) hs
def ImpsEnd (L : List Tk) (w : World) (e : Ending) (w' : World) : Prop :=
  (((declR L 0 []).1 = true ∧ ∃ v, e = .returned (.tuple #[v, .int .i64 (declR L 0 []).2.1, .int .i64 0]) ∧ w'.ownsRow w.heap.size 38 3 v (declR L 0 []).2.2.length (LF imV (declR L 0 []).2.2)) ∨
  ((declR L 0 []).1 = false ∧ e = .returned (.tuple #[.slice none 0 0, .int .i64 (-1), .int .i64 (declR L 0 []).2.1]))) ∧ Below w.heap.size w w'
set_option maxRecDepth 100000 in
set_option maxHeartbeats 8000000 in
theorem dimps_any (L : List Tk) (v : Value) (w : World) (hv : LAt 3 tkV w v L) (F : EndT L) (hC : ∀ i, (tk L i).2.1 = ⟨#[41]⟩ → (tk L i).1 = 5) (hl : L.length ≤ 4194304) : Calls Tryz.prog 14 #[v] w (ImpsEnd L w) := by
  have hpos := F.pos
  obtain ⟨p, cap, rfl, hp⟩ := hv.shape
  obtain ⟨g, off, rfl⟩ := hp hpos
  have hcap : L.length ≤ cap := by
    rcases hv.2 with ⟨p', c', h1, h2⟩ | ⟨b', o', c', h1, _, h2, _⟩
    · rw [h2] at hpos; cases hpos
    · injection h1 with _ _ h3
      rw [h3]; exact h2
  have HV := Lib.hid (fun w1 (h1 : Below w.heap.size w w1) i (hi : i < L.length) => lat_tk (hv.below h1) (tk_some hi))
  have HF := Lib.hid F
  have HC := Lib.hid hC
  have HSP := Lib.hid (fun n (hn : n < L.length) w1 (h1 : Below w.heap.size w w1) => dspec_any (L.drop n) _ w1 (lat_drop (hv.below h1) hn) (end_drop F hn) (by rw [List.length_drop]; omega))
  have HSP := Lib.hid (fun n (hn : n < L.length) w1 h1 => by have h := HSP.out n hn w1 h1; rw [List.length_drop] at h; exact h)
  obtain ⟨D, hD⟩ : ∃ D, declR L 0 [] = D := ⟨_, rfl⟩
  have HD := Lib.hid hD
  unfold ImpsEnd
  rw [hD]
  clear hv hp F hC hD
  go_enter Tryz.func14, Tryz.ntmps14
  go_wp2_with fail
  go_loopg [5, 6] L.length (fun gg vo iv wr => ∃ (n : Nat) (I : List Im), n + gg = L.length ∧ 0 < gg ∧ iv = .int .i64 n ∧ I.length ≤ n ∧ Hid (wr.ownsRow w.heap.size 38 3 vo I.length (LF imV I)) ∧ Hid (D = declR L n I) ∧ Hid (Below w.heap.size w wr))
  case atStart => exact ⟨0, [], by omega, hpos, rfl, Nat.le_refl _, Lib.hid ⟨rfl, .inl ⟨rfl, rfl⟩⟩, Lib.hid HD.out.symm, Lib.hid (Below.refl _ _)⟩
  case round =>
    obtain ⟨n, I, hng, hg0, rfl, hIn, HO, HDn, HB⟩ := hrel
    obtain ⟨gko, hgko⟩ : ∃ x, x = gk := ⟨_, rfl⟩
    have hn : n < L.length := by omega
    have hnI : (n : Int) < (L.length : Int) := by omega
    obtain ⟨⟨k, x, p⟩, ht⟩ : ∃ t, tk L n = t := ⟨_, rfl⟩
    obtain ⟨hgl, c0, c1, c2⟩ := HV.out wr HB.out n hn
    rw [ht] at c0 c1 c2
    dsimp only at c0 c1 c2
    have k1 : ((k : Int) == 1) = decide (k = 1) := int_eqb k 1
    have kw : (x.toList == ([105, 109, 112, 111, 114, 116] : List UInt8)) = decide (x = wImport) := str_lit x #[105, 109, 112, 111, 114, 116]
    by_cases hk : k = 1
    case neg =>
      have HQ := Lib.hid (HDn.out.trans (declR_end I hn (by rw [ht]; unfold tIs; simp [hk])))
      rw [decide_eq_false hk] at k1
      clear hk kw ht
      go_wp2_with fail
      go_ret3
      exact ⟨.inl ⟨by rw [HQ.out], _, by rw [HQ.out]; rfl, by rw [HQ.out]; exact HO.out⟩, HB.out⟩
    rw [decide_eq_true hk] at k1
    by_cases hw : x = wImport
    case neg =>
      have HQ := Lib.hid (HDn.out.trans (declR_end I hn (by rw [ht]; unfold tIs; simp [hw])))
      rw [decide_eq_false hw] at kw
      clear hk hw ht
      go_wp2_with fail
      go_ret3
      exact ⟨.inl ⟨by rw [HQ.out], _, by rw [HQ.out]; rfl, by rw [HQ.out]; exact HO.out⟩, HB.out⟩
    have hti : tIs 1 wImport (tk L n) = true := by rw [ht, hk, hw]; rfl
    rw [decide_eq_true hw] at kw
    obtain ⟨hn1, hs1, hs2, hs3, hdn⟩ := declR_imp HF.out hn hIn hti
    have HQ := Lib.hid (HDn.out.trans hdn)
    clear hk hw hdn
    have hn1I : (n : Int) + 1 < (L.length : Int) := by omega
    have hn1c : n + 1 < cap := by omega
    have hn1z : cap - (n + 1) ≠ 0 := by omega
    have hn1e : cap ≠ n + 1 := by omega
    obtain ⟨⟨k', x', p'⟩, ht'⟩ : ∃ t, tk L (n + 1) = t := ⟨_, rfl⟩
    obtain ⟨_, e0, e1, e2⟩ := HV.out wr HB.out (n + 1) hn1
    rw [ht'] at e0 e1 e2
    dsimp only at e0 e1 e2
    have k5 : ((k' : Int) == 5) = decide (k' = 5) := int_eqb k' 5
    have kp := str_lit x' #[40]
    by_cases h5 : k' = 5
    case neg =>
      have hgr : tIs 5 ⟨#[40]⟩ (tk L (n + 1)) = false := by rw [ht']; unfold tIs; simp [h5]
      rw [decide_eq_false h5] at k5
      clear h5 kp ht'
      go_wp2_with fail
      have HOc := HO
      have HS1 := Lib.hid (show specs1 L (n + 1) I = ((specR L (n + 1)).1.isSome, (specR L (n + 1)).2, I ++ (specR L (n + 1)).1.toList) from by unfold specs1; rw [if_neg (by rw [hgr]; decide)])
      rw [HS1.out] at hs1 hs2 hs3
      dsimp only at hs1 hs2 hs3
      clear hgr c0 c1 c2 e0 e1 e2
      go_loopg [5, 6] 1 (fun gg vz iz wz => Hid (wz.ownsRow w.heap.size 38 3 vz I.length (LF imV I)) ∧ iz = .int .i64 ((n : Int) + 1) ∧ wz = wr ∧ gg = 1)
      case atStart => exact ⟨HOc, rfl, rfl, rfl⟩
      case round =>
        obtain ⟨HOi, rfl, rfl, rfl⟩ := hrel
        go_wp2_with fail
        refine (HSP.out (n + 1) hn1 wr HB.out).mono ?_
        rintro r w5 ⟨⟨xv, a, b, rfl, hsp⟩, hB5⟩
        have HB5 := Lib.hid (HB.out.trans (hB5.mono HB.out.size))
        have HO5 := Lib.hid (gen_own_below HOi.out hB5)
        have hq := specR_drop L (n + 1)
        rw [hq.1] at hsp
        have hq2 := hq.2
        have hsp0 : ∀ m, (specR L (n + 1)).1 = some m → 0 < (specR (L.drop (n + 1)) 0).2 := fun m hm => specR_pos (hq.1.trans hm)
        obtain ⟨q, hqd⟩ : ∃ q, (specR L (n + 1)).2 = q := ⟨_, rfl⟩
        obtain ⟨a0, ha0⟩ : ∃ a0, (specR (L.drop (n + 1)) 0).2 = a0 := ⟨_, rfl⟩
        rw [hqd, ha0] at hq2
        rw [ha0] at hsp hsp0
        clear hq hB5 ha0
        rcases hsp with ⟨⟨m1, m2, m3⟩, hm, hx, rfl, rfl⟩ | ⟨hm, rfl, rfl, s1, s2, z, rfl⟩
        case inr =>
          have HQ2 := Lib.hid (show D = (false, q, I) from by rw [HQ.out, HS1.out, hm, hqd]; simp)
          rw [hqd] at hs2
          have hqL : q < L.length := hs2
          have hsum : (n : Int) + 1 + (b : Int) = (q : Int) := by omega
          clear hsp0 hm hqd hs1 hs2 hs3
          go_wp2_with fail
          go_ret3
          exact ⟨.inr ⟨by rw [HQ2.out], by rw [HQ2.out]; rfl⟩, HB5.out.alloc HB5.out.size _⟩
        have hx : xv = .agg #[.string m1, .string m2, .int .i64 m3] := hx
        subst hx
        have ha := hsp0 _ hm
        have kaz : ((a : Int) == 0) = false := beq_eq_false_iff_ne.2 (by omega)
        have hba := (Below.refl w5.heap.size w5).alloc (Nat.le_refl _) (.cells #[.string m1, .string m2, .int .i64 m3] 38)
        have HB6 := Lib.hid (HB5.out.trans (hba.mono HB5.out.size))
        have HO6 := Lib.hid (gen_own_below HO5.out hba)
        clear hba hsp0
        have HQ2 := Lib.hid (show D = if tSemi (tk L q) = true then declR L (q + 1) (I ++ [(m1, m2, m3)]) else (false, q, I ++ [(m1, m2, m3)]) from by
          rw [HQ.out, HS1.out, hm, hqd]
          simp)
        rw [hqd] at hs1 hs2
        have hqL : q < L.length := hs2
        have hsum : (n : Int) + 1 + (a : Int) = (q : Int) := by omega
        have hqI : (q : Int) < (L.length : Int) := by omega
        obtain ⟨⟨kq, xq, pq⟩, htq⟩ : ∃ t, tk L q = t := ⟨_, rfl⟩
        have k6 : ((kq : Int) == 6) = decide (kq = 6) := int_eqb kq 6
        rw [htq] at HQ2
        have hsem : tSemi (kq, xq, pq) = decide (kq = 6) := rfl
        rw [hsem] at HQ2
        have hqs : kq = 6 → q + 1 < L.length := fun h => HF.out.semi hqL (by rw [htq]; unfold tSemi; simp [h])
        clear hm hqd hs1 hs2 hs3 hsem
        by_cases h6 : kq = 6
        · have hq1 := hqs h6
          have HQ3 := Lib.hid (HQ2.out.trans (if_pos (decide_eq_true h6)))
          rw [decide_eq_true h6] at k6
          have k6n := ne_of_eqb k6
          clear h6 hqs
          go_wp2_with (first | (at_builtin; go_must (refine wpList_append_gen eltI rfl (.tmp 75) (.tmp 77) rfl rfl w.heap.size _ I rfl (gen_own_below HO6.out ((Below.refl _ _).alloc (Nat.le_refl _) _)) _ [(m1, m2, m3)] (LAt.block rfl rfl (new2 _ _ _)) rfl (by simp only [List.length_cons, List.length_nil]; omega) (by unfold maxLen; simp only [List.length_cons, List.length_nil]; omega) (by have := HB5.out.size; simp; omega) ?_); intro va wa hoa hga; have hBb := (HB6.out.alloc HB6.out.size (.cells #[.string m1, .string m2, .int .i64 m3] 38)).grown hga (by have := HB6.out.size; simp at this ⊢; omega) (fun k hk => (HO6.out.lt k hk).1); have HBb := Lib.hid hBb; have Hoa := Lib.hid hoa; obtain ⟨_, f0, f1, f2⟩ := HV.out wa hBb q hqL; rw [htq] at f0 f1 f2; dsimp only at f0 f1 f2; clear hBb hoa hga))
          go_roundg (L.length - (q + 1))
          case measure => omega
          case rel => exact ⟨q + 1, I ++ [(m1, m2, m3)], by omega, by omega, by go_num, by simp; omega, Hoa, HQ3, HBb⟩
        · have HQ3 := Lib.hid (HQ2.out.trans (if_neg (by rw [decide_eq_false h6]; decide)))
          rw [decide_eq_false h6] at k6
          have k6n := ne_of_eqb k6
          clear h6 hqs
          go_wp2_with (first | (at_builtin; go_must (refine wpList_append_gen eltI rfl (.tmp 75) (.tmp 77) rfl rfl w.heap.size _ I rfl (gen_own_below HO6.out ((Below.refl _ _).alloc (Nat.le_refl _) _)) _ [(m1, m2, m3)] (LAt.block rfl rfl (new2 _ _ _)) rfl (by simp only [List.length_cons, List.length_nil]; omega) (by unfold maxLen; simp only [List.length_cons, List.length_nil]; omega) (by have := HB5.out.size; simp; omega) ?_); intro va wa hoa hga; have hBb := (HB6.out.alloc HB6.out.size (.cells #[.string m1, .string m2, .int .i64 m3] 38)).grown hga (by have := HB6.out.size; simp at this ⊢; omega) (fun k hk => (HO6.out.lt k hk).1); have HBb := Lib.hid hBb; have Hoa := Lib.hid hoa; obtain ⟨_, f0, f1, f2⟩ := HV.out wa hBb q hqL; rw [htq] at f0 f1 f2; dsimp only at f0 f1 f2; clear hBb hoa hga))
          go_ret3
          exact ⟨.inr ⟨by rw [HQ3.out], by rw [HQ3.out]; rfl⟩, HBb.out⟩
    rw [decide_eq_true h5] at k5
    by_cases hpr : x' = ⟨#[40]⟩
    case neg =>
      have hgr : tIs 5 ⟨#[40]⟩ (tk L (n + 1)) = false := by rw [ht']; unfold tIs; simp [hpr]
      rw [decide_eq_false hpr] at kp
      clear h5 hpr ht'
      go_wp2_with fail
      have HOc := HO
      have HS1 := Lib.hid (show specs1 L (n + 1) I = ((specR L (n + 1)).1.isSome, (specR L (n + 1)).2, I ++ (specR L (n + 1)).1.toList) from by unfold specs1; rw [if_neg (by rw [hgr]; decide)])
      rw [HS1.out] at hs1 hs2 hs3
      dsimp only at hs1 hs2 hs3
      clear hgr c0 c1 c2 e0 e1 e2
      go_loopg [5, 6] 1 (fun gg vz iz wz => Hid (wz.ownsRow w.heap.size 38 3 vz I.length (LF imV I)) ∧ iz = .int .i64 ((n : Int) + 1) ∧ wz = wr ∧ gg = 1)
      case atStart => exact ⟨HOc, rfl, rfl, rfl⟩
      case round =>
        obtain ⟨HOi, rfl, rfl, rfl⟩ := hrel
        go_wp2_with fail
        refine (HSP.out (n + 1) hn1 wr HB.out).mono ?_
        rintro r w5 ⟨⟨xv, a, b, rfl, hsp⟩, hB5⟩
        have HB5 := Lib.hid (HB.out.trans (hB5.mono HB.out.size))
        have HO5 := Lib.hid (gen_own_below HOi.out hB5)
        have hq := specR_drop L (n + 1)
        rw [hq.1] at hsp
        have hq2 := hq.2
        have hsp0 : ∀ m, (specR L (n + 1)).1 = some m → 0 < (specR (L.drop (n + 1)) 0).2 := fun m hm => specR_pos (hq.1.trans hm)
        obtain ⟨q, hqd⟩ : ∃ q, (specR L (n + 1)).2 = q := ⟨_, rfl⟩
        obtain ⟨a0, ha0⟩ : ∃ a0, (specR (L.drop (n + 1)) 0).2 = a0 := ⟨_, rfl⟩
        rw [hqd, ha0] at hq2
        rw [ha0] at hsp hsp0
        clear hq hB5 ha0
        rcases hsp with ⟨⟨m1, m2, m3⟩, hm, hx, rfl, rfl⟩ | ⟨hm, rfl, rfl, s1, s2, z, rfl⟩
        case inr =>
          have HQ2 := Lib.hid (show D = (false, q, I) from by rw [HQ.out, HS1.out, hm, hqd]; simp)
          rw [hqd] at hs2
          have hqL : q < L.length := hs2
          have hsum : (n : Int) + 1 + (b : Int) = (q : Int) := by omega
          clear hsp0 hm hqd hs1 hs2 hs3
          go_wp2_with fail
          go_ret3
          exact ⟨.inr ⟨by rw [HQ2.out], by rw [HQ2.out]; rfl⟩, HB5.out.alloc HB5.out.size _⟩
        have hx : xv = .agg #[.string m1, .string m2, .int .i64 m3] := hx
        subst hx
        have ha := hsp0 _ hm
        have kaz : ((a : Int) == 0) = false := beq_eq_false_iff_ne.2 (by omega)
        have hba := (Below.refl w5.heap.size w5).alloc (Nat.le_refl _) (.cells #[.string m1, .string m2, .int .i64 m3] 38)
        have HB6 := Lib.hid (HB5.out.trans (hba.mono HB5.out.size))
        have HO6 := Lib.hid (gen_own_below HO5.out hba)
        clear hba hsp0
        have HQ2 := Lib.hid (show D = if tSemi (tk L q) = true then declR L (q + 1) (I ++ [(m1, m2, m3)]) else (false, q, I ++ [(m1, m2, m3)]) from by
          rw [HQ.out, HS1.out, hm, hqd]
          simp)
        rw [hqd] at hs1 hs2
        have hqL : q < L.length := hs2
        have hsum : (n : Int) + 1 + (a : Int) = (q : Int) := by omega
        have hqI : (q : Int) < (L.length : Int) := by omega
        obtain ⟨⟨kq, xq, pq⟩, htq⟩ : ∃ t, tk L q = t := ⟨_, rfl⟩
        have k6 : ((kq : Int) == 6) = decide (kq = 6) := int_eqb kq 6
        rw [htq] at HQ2
        have hsem : tSemi (kq, xq, pq) = decide (kq = 6) := rfl
        rw [hsem] at HQ2
        have hqs : kq = 6 → q + 1 < L.length := fun h => HF.out.semi hqL (by rw [htq]; unfold tSemi; simp [h])
        clear hm hqd hs1 hs2 hs3 hsem
        by_cases h6 : kq = 6
        · have hq1 := hqs h6
          have HQ3 := Lib.hid (HQ2.out.trans (if_pos (decide_eq_true h6)))
          rw [decide_eq_true h6] at k6
          have k6n := ne_of_eqb k6
          clear h6 hqs
          go_wp2_with (first | (at_builtin; go_must (refine wpList_append_gen eltI rfl (.tmp 75) (.tmp 77) rfl rfl w.heap.size _ I rfl (gen_own_below HO6.out ((Below.refl _ _).alloc (Nat.le_refl _) _)) _ [(m1, m2, m3)] (LAt.block rfl rfl (new2 _ _ _)) rfl (by simp only [List.length_cons, List.length_nil]; omega) (by unfold maxLen; simp only [List.length_cons, List.length_nil]; omega) (by have := HB5.out.size; simp; omega) ?_); intro va wa hoa hga; have hBb := (HB6.out.alloc HB6.out.size (.cells #[.string m1, .string m2, .int .i64 m3] 38)).grown hga (by have := HB6.out.size; simp at this ⊢; omega) (fun k hk => (HO6.out.lt k hk).1); have HBb := Lib.hid hBb; have Hoa := Lib.hid hoa; obtain ⟨_, f0, f1, f2⟩ := HV.out wa hBb q hqL; rw [htq] at f0 f1 f2; dsimp only at f0 f1 f2; clear hBb hoa hga))
          go_roundg (L.length - (q + 1))
          case measure => omega
          case rel => exact ⟨q + 1, I ++ [(m1, m2, m3)], by omega, by omega, by go_num, by simp; omega, Hoa, HQ3, HBb⟩
        · have HQ3 := Lib.hid (HQ2.out.trans (if_neg (by rw [decide_eq_false h6]; decide)))
          rw [decide_eq_false h6] at k6
          have k6n := ne_of_eqb k6
          clear h6 hqs
          go_wp2_with (first | (at_builtin; go_must (refine wpList_append_gen eltI rfl (.tmp 75) (.tmp 77) rfl rfl w.heap.size _ I rfl (gen_own_below HO6.out ((Below.refl _ _).alloc (Nat.le_refl _) _)) _ [(m1, m2, m3)] (LAt.block rfl rfl (new2 _ _ _)) rfl (by simp only [List.length_cons, List.length_nil]; omega) (by unfold maxLen; simp only [List.length_cons, List.length_nil]; omega) (by have := HB5.out.size; simp; omega) ?_); intro va wa hoa hga; have hBb := (HB6.out.alloc HB6.out.size (.cells #[.string m1, .string m2, .int .i64 m3] 38)).grown hga (by have := HB6.out.size; simp at this ⊢; omega) (fun k hk => (HO6.out.lt k hk).1); have HBb := Lib.hid hBb; have Hoa := Lib.hid hoa; obtain ⟨_, f0, f1, f2⟩ := HV.out wa hBb q hqL; rw [htq] at f0 f1 f2; dsimp only at f0 f1 f2; clear hBb hoa hga))
          go_ret3
          exact ⟨.inr ⟨by rw [HQ3.out], by rw [HQ3.out]; rfl⟩, HBb.out⟩
    have hgr : tIs 5 ⟨#[40]⟩ (tk L (n + 1)) = true := by rw [ht']; unfold tIs; simp [h5, hpr]
    have hn2 : n + 1 + 1 < L.length := HF.out.is hn1 (by omega) (by omega) hgr
    have HS1 := Lib.hid (show specs1 L (n + 1) I = specsR L (n + 2) I from by unfold specs1; rw [if_pos hgr])
    rw [decide_eq_true hpr] at kp
    clear h5 hpr ht' hgr
    go_wp2_with fail
    clear c0 c1 c2 e0 e1 e2 k1 kw k5 kp
    go_loopg [5, 6] (L.length - (n + 2)) (fun gg vz iz wz => ∃ (j : Nat) (J : List Im), j + gg = L.length ∧ 0 < gg ∧ iz = .int .i64 j ∧ n + 2 ≤ j ∧ J.length ≤ j ∧ Hid (wz.ownsRow w.heap.size 38 3 vz J.length (LF imV J)) ∧ Hid (specsR L (n + 2) I = specsR L j J) ∧ Hid (Below w.heap.size w wz))
    case atStart => exact ⟨n + 2, I, by omega, by omega, by go_num, Nat.le_refl _, by omega, HO, Lib.hid rfl, HB⟩
    case round =>
      obtain ⟨j, J, hjg, hj0, rfl, hnj, hJj, HOi, HSJ, HBi⟩ := hrel
      have hj : j < L.length := by omega
      have hjI : (j : Int) < (L.length : Int) := by omega
      have hjc : j < cap := by omega
      have hjz : cap - j ≠ 0 := by omega
      have hje : cap ≠ j := by omega
      obtain ⟨⟨kj, xj, pj⟩, htj⟩ : ∃ t, tk L j = t := ⟨_, rfl⟩
      obtain ⟨_, d0, d1, d2⟩ := HV.out wr HBi.out j hj
      rw [htj] at d0 d1 d2
      dsimp only at d0 d1 d2
      have kj5 : ((kj : Int) == 5) = decide (kj = 5) := int_eqb kj 5
      have kjc := str_lit xj #[41]
      by_cases hj5 : kj = 5
      case neg =>
        have hcl : tIs 5 ⟨#[41]⟩ (tk L j) = false := by rw [htj]; unfold tIs; simp [hj5]
        rw [decide_eq_false hj5] at kj5
        have kj5n := ne_of_eqb kj5
        clear hj5 htj kjc
        go_wp2_with fail
        refine (HSP.out (j) hj wr HBi.out).mono ?_
        rintro r w5 ⟨⟨xv, a, b, rfl, hsp⟩, hB5⟩
        have HB5 := Lib.hid (HBi.out.trans (hB5.mono HBi.out.size))
        have HO5 := Lib.hid (gen_own_below HOi.out hB5)
        have hq := specR_drop L (j)
        rw [hq.1] at hsp
        have hq2 := hq.2
        have hsp0 : ∀ m, (specR L (j)).1 = some m → 0 < (specR (L.drop (j)) 0).2 := fun m hm => specR_pos (hq.1.trans hm)
        obtain ⟨q, hqd⟩ : ∃ q, (specR L (j)).2 = q := ⟨_, rfl⟩
        obtain ⟨a0, ha0⟩ : ∃ a0, (specR (L.drop (j)) 0).2 = a0 := ⟨_, rfl⟩
        rw [hqd, ha0] at hq2
        rw [ha0] at hsp hsp0
        clear hq hB5 ha0
        rcases hsp with ⟨⟨m1, m2, m3⟩, hm, hx, rfl, rfl⟩ | ⟨hm, rfl, rfl, s1, s2, z, rfl⟩
        case inr =>
          have HSC := Lib.hid (show specs1 L (n + 1) I = (false, q, J) from by rw [HS1.out, HSJ.out, specsR_none J hj hcl hm, hqd])
          have HQ2 := Lib.hid (show D = (false, q, J) from by rw [HQ.out, HSC.out]; simp)
          have hqL : q < L.length := by rw [HSC.out] at hs2; exact hs2
          have hsum : (j : Int) + (b : Int) = (q : Int) := by omega
          clear hsp0 hm hqd
          go_wp2_with fail
          go_ret3
          exact ⟨.inr ⟨by rw [HQ2.out], by rw [HQ2.out]; rfl⟩, HB5.out.alloc HB5.out.size _⟩
        have hx : xv = .agg #[.string m1, .string m2, .int .i64 m3] := hx
        subst hx
        have ha := hsp0 _ hm
        have kaz : ((a : Int) == 0) = false := beq_eq_false_iff_ne.2 (by omega)
        have hba := (Below.refl w5.heap.size w5).alloc (Nat.le_refl _) (.cells #[.string m1, .string m2, .int .i64 m3] 38)
        have HB6 := Lib.hid (HB5.out.trans (hba.mono HB5.out.size))
        have HO6 := Lib.hid (gen_own_below HO5.out hba)
        clear hba hsp0
        have HSX := Lib.hid (show specsR L (n + 2) I = if tSemi (tk L q) = true then specsR L (q + 1) (J ++ [(m1, m2, m3)]) else if (tk L q).2.1 = ⟨#[41]⟩ then specsR L q (J ++ [(m1, m2, m3)]) else (false, q, J ++ [(m1, m2, m3)]) from by
          rw [HSJ.out, specsR_some J hj hcl hm, hqd])
        have hqL : q < L.length := by rw [← hqd]; exact specR_lt HF.out hj
        have hsum : (j : Int) + (a : Int) = (q : Int) := by omega
        have hqI : (q : Int) < (L.length : Int) := by omega
        have hJl : (J ++ [(m1, m2, m3)]).length ≤ q := by simp; omega
        obtain ⟨⟨kq, xq, pq⟩, htq⟩ : ∃ t, tk L q = t := ⟨_, rfl⟩
        have hqs : kq = 6 → q + 1 < L.length := fun h => HF.out.semi hqL (by rw [htq]; unfold tSemi; simp [h])
        have hqc : xq = ⟨#[41]⟩ → kq = 5 := fun h => by have := HC.out q (by rw [htq]; exact h); rw [htq] at this; exact this
        have hqe : kq = 5 → xq = ⟨#[41]⟩ → q + 1 < L.length := fun h1 h2 => HF.out.is (k := 5) (t := ⟨#[41]⟩) hqL (by omega) (by omega) (by rw [htq]; unfold tIs; simp [h1, h2])
        have hcq : kq = 5 → xq = ⟨#[41]⟩ → tIs 5 ⟨#[41]⟩ (tk L q) = true := fun h1 h2 => by rw [htq]; unfold tIs; simp [h1, h2]
        have hse : tSemi (tk L q) = decide (kq = 6) := by rw [htq]; rfl
        have hte : (tk L q).2.1 = xq := by rw [htq]
        rw [hse, hte] at HSX
        have q5 : ((kq : Int) == 5) = decide (kq = 5) := int_eqb kq 5
        have q6 : ((kq : Int) == 6) = decide (kq = 6) := int_eqb kq 6
        have qc := str_lit xq #[41]
        clear hm hqd hse hte
        by_cases h5 : kq = 5
        · have h6 : ¬ kq = 6 := by omega
          rw [decide_eq_true h5] at q5
          rw [decide_eq_false h6] at q6
          have q6n := ne_of_eqb q6
          by_cases hx : xq = ⟨#[41]⟩
          · have hr1 := hqe h5 hx
            have HSC := Lib.hid (show specs1 L (n + 1) I = (true, q + 1, J ++ [(m1, m2, m3)]) from by
              rw [HS1.out, HSX.out, if_neg (by rw [decide_eq_false h6]; decide), if_pos hx, specsR_close _ hqL (hcq h5 hx)])
            obtain ⟨⟨kr, xr, pr⟩, htr⟩ : ∃ t, tk L (q + 1) = t := ⟨_, rfl⟩
            have hr1I : (q : Int) + 1 < (L.length : Int) := by omega
            rw [decide_eq_true hx] at qc
            clear h5 h6 hx hqs hqc hqe hcq HSX
            have HQc := Lib.hid (show D = if tSemi (kr, xr, pr) = true then declR L (q + 1 + 1) (J ++ [(m1, m2, m3)]) else (false, q + 1, J ++ [(m1, m2, m3)]) from by
              rw [HQ.out, HSC.out]
              dsimp only
              rw [htr]
              simp)
            have hsem : tSemi (kr, xr, pr) = decide (kr = 6) := rfl
            rw [hsem] at HQc
            have hrs : kr = 6 → q + 1 + 1 < L.length := fun h => HF.out.semi hr1 (by rw [htr]; unfold tSemi; simp [h])
            have k6 : ((kr : Int) == 6) = decide (kr = 6) := int_eqb kr 6
            clear hsem
            by_cases h6 : kr = 6
            · have hr2 := hrs h6
              have HQ3 := Lib.hid (HQc.out.trans (if_pos (decide_eq_true h6)))
              rw [decide_eq_true h6] at k6
              have k6n := ne_of_eqb k6
              clear h6 hrs
              go_wp2_with (first | (at_builtin; go_must (refine wpList_append_gen eltI rfl (.tmp 75) (.tmp 77) rfl rfl w.heap.size _ J rfl (gen_own_below HO6.out ((Below.refl _ _).alloc (Nat.le_refl _) _)) _ [(m1, m2, m3)] (LAt.block rfl rfl (new2 _ _ _)) rfl (by simp only [List.length_cons, List.length_nil]; omega) (by unfold maxLen; simp only [List.length_cons, List.length_nil]; omega) (by have := HB5.out.size; simp; omega) ?_); intro va wa hoa hga; have hBb := (HB6.out.alloc HB6.out.size (.cells #[.string m1, .string m2, .int .i64 m3] 38)).grown hga (by have := HB6.out.size; simp at this ⊢; omega) (fun k hk => (HO6.out.lt k hk).1); have HBb := Lib.hid hBb; have Hoa := Lib.hid hoa; obtain ⟨_, f0, f1, f2⟩ := HV.out wa hBb q hqL; rw [htq] at f0 f1 f2; dsimp only at f0 f1 f2; clear hBb hoa hga; obtain ⟨_, h0_, h1_, h2_⟩ := HV.out wa HBb.out (q + 1) hr1; rw [htr] at h0_ h1_ h2_; dsimp only at h0_ h1_ h2_))
              go_roundg (L.length - (q + 1 + 1))
              case measure => omega
              case rel => exact ⟨q + 1 + 1, J ++ [(m1, m2, m3)], by omega, by omega, by go_num, by first | omega | (simp; omega), Hoa, HQ3, HBb⟩
            · have HQ3 := Lib.hid (HQc.out.trans (if_neg (by rw [decide_eq_false h6]; decide)))
              rw [decide_eq_false h6] at k6
              have k6n := ne_of_eqb k6
              clear h6 hrs
              go_wp2_with (first | (at_builtin; go_must (refine wpList_append_gen eltI rfl (.tmp 75) (.tmp 77) rfl rfl w.heap.size _ J rfl (gen_own_below HO6.out ((Below.refl _ _).alloc (Nat.le_refl _) _)) _ [(m1, m2, m3)] (LAt.block rfl rfl (new2 _ _ _)) rfl (by simp only [List.length_cons, List.length_nil]; omega) (by unfold maxLen; simp only [List.length_cons, List.length_nil]; omega) (by have := HB5.out.size; simp; omega) ?_); intro va wa hoa hga; have hBb := (HB6.out.alloc HB6.out.size (.cells #[.string m1, .string m2, .int .i64 m3] 38)).grown hga (by have := HB6.out.size; simp at this ⊢; omega) (fun k hk => (HO6.out.lt k hk).1); have HBb := Lib.hid hBb; have Hoa := Lib.hid hoa; obtain ⟨_, f0, f1, f2⟩ := HV.out wa hBb q hqL; rw [htq] at f0 f1 f2; dsimp only at f0 f1 f2; clear hBb hoa hga; obtain ⟨_, h0_, h1_, h2_⟩ := HV.out wa HBb.out (q + 1) hr1; rw [htr] at h0_ h1_ h2_; dsimp only at h0_ h1_ h2_))
              go_ret3
              exact ⟨.inr ⟨by rw [HQ3.out], by rw [HQ3.out]; rfl⟩, HBb.out⟩
          · have HSC := Lib.hid (show specs1 L (n + 1) I = (false, q, J ++ [(m1, m2, m3)]) from by
              rw [HS1.out, HSX.out, if_neg (by rw [decide_eq_false h6]; decide), if_neg hx])
            have HQ2 := Lib.hid (show D = (false, q, J ++ [(m1, m2, m3)]) from by rw [HQ.out, HSC.out]; simp)
            rw [decide_eq_false hx] at qc
            clear h5 h6 hx hqs hqc hqe hcq HSX
            go_wp2_with (first | (at_builtin; go_must (refine wpList_append_gen eltI rfl (.tmp 75) (.tmp 77) rfl rfl w.heap.size _ J rfl (gen_own_below HO6.out ((Below.refl _ _).alloc (Nat.le_refl _) _)) _ [(m1, m2, m3)] (LAt.block rfl rfl (new2 _ _ _)) rfl (by simp only [List.length_cons, List.length_nil]; omega) (by unfold maxLen; simp only [List.length_cons, List.length_nil]; omega) (by have := HB5.out.size; simp; omega) ?_); intro va wa hoa hga; have hBb := (HB6.out.alloc HB6.out.size (.cells #[.string m1, .string m2, .int .i64 m3] 38)).grown hga (by have := HB6.out.size; simp at this ⊢; omega) (fun k hk => (HO6.out.lt k hk).1); have HBb := Lib.hid hBb; have Hoa := Lib.hid hoa; obtain ⟨_, f0, f1, f2⟩ := HV.out wa hBb q hqL; rw [htq] at f0 f1 f2; dsimp only at f0 f1 f2; clear hBb hoa hga))
            go_ret3
            exact ⟨.inr ⟨by rw [HQ2.out], by rw [HQ2.out]; rfl⟩, HBb.out⟩
        rw [decide_eq_false h5] at q5
        by_cases h6 : kq = 6
        · have hr1 := hqs h6
          have HSC := Lib.hid (HSX.out.trans (if_pos (decide_eq_true h6)))
          rw [decide_eq_true h6] at q6
          have q6n := ne_of_eqb q6
          clear h5 h6 hqs hqc hqe hcq HSX
          go_wp2_with (first | (at_builtin; go_must (refine wpList_append_gen eltI rfl (.tmp 75) (.tmp 77) rfl rfl w.heap.size _ J rfl (gen_own_below HO6.out ((Below.refl _ _).alloc (Nat.le_refl _) _)) _ [(m1, m2, m3)] (LAt.block rfl rfl (new2 _ _ _)) rfl (by simp only [List.length_cons, List.length_nil]; omega) (by unfold maxLen; simp only [List.length_cons, List.length_nil]; omega) (by have := HB5.out.size; simp; omega) ?_); intro va wa hoa hga; have hBb := (HB6.out.alloc HB6.out.size (.cells #[.string m1, .string m2, .int .i64 m3] 38)).grown hga (by have := HB6.out.size; simp at this ⊢; omega) (fun k hk => (HO6.out.lt k hk).1); have HBb := Lib.hid hBb; have Hoa := Lib.hid hoa; obtain ⟨_, f0, f1, f2⟩ := HV.out wa hBb q hqL; rw [htq] at f0 f1 f2; dsimp only at f0 f1 f2; clear hBb hoa hga))
          go_roundg (L.length - (q + 1))
          case measure => omega
          case rel => exact ⟨q + 1, J ++ [(m1, m2, m3)], by omega, by omega, by go_num, by omega, by omega, Hoa, HSC, HBb⟩
        · have hx : ¬ xq = ⟨#[41]⟩ := fun h => h5 (hqc h)
          have HSC := Lib.hid (show specs1 L (n + 1) I = (false, q, J ++ [(m1, m2, m3)]) from by
            rw [HS1.out, HSX.out, if_neg (by rw [decide_eq_false h6]; decide), if_neg hx])
          have HQ2 := Lib.hid (show D = (false, q, J ++ [(m1, m2, m3)]) from by rw [HQ.out, HSC.out]; simp)
          rw [decide_eq_false h6] at q6
          have q6n := ne_of_eqb q6
          clear h5 h6 hx hqs hqc hqe hcq HSX
          go_wp2_with (first | (at_builtin; go_must (refine wpList_append_gen eltI rfl (.tmp 75) (.tmp 77) rfl rfl w.heap.size _ J rfl (gen_own_below HO6.out ((Below.refl _ _).alloc (Nat.le_refl _) _)) _ [(m1, m2, m3)] (LAt.block rfl rfl (new2 _ _ _)) rfl (by simp only [List.length_cons, List.length_nil]; omega) (by unfold maxLen; simp only [List.length_cons, List.length_nil]; omega) (by have := HB5.out.size; simp; omega) ?_); intro va wa hoa hga; have hBb := (HB6.out.alloc HB6.out.size (.cells #[.string m1, .string m2, .int .i64 m3] 38)).grown hga (by have := HB6.out.size; simp at this ⊢; omega) (fun k hk => (HO6.out.lt k hk).1); have HBb := Lib.hid hBb; have Hoa := Lib.hid hoa; obtain ⟨_, f0, f1, f2⟩ := HV.out wa hBb q hqL; rw [htq] at f0 f1 f2; dsimp only at f0 f1 f2; clear hBb hoa hga))
          go_ret3
          exact ⟨.inr ⟨by rw [HQ2.out], by rw [HQ2.out]; rfl⟩, HBb.out⟩
      rw [decide_eq_true hj5] at kj5
      have kj5n := ne_of_eqb kj5
      by_cases hjx : xj = ⟨#[41]⟩
      case neg =>
        have hcl : tIs 5 ⟨#[41]⟩ (tk L j) = false := by rw [htj]; unfold tIs; simp [hjx]
        rw [decide_eq_false hjx] at kjc
        have kjcn := ne_of_eqb kjc
        clear hj5 hjx htj
        go_wp2_with fail
        refine (HSP.out (j) hj wr HBi.out).mono ?_
        rintro r w5 ⟨⟨xv, a, b, rfl, hsp⟩, hB5⟩
        have HB5 := Lib.hid (HBi.out.trans (hB5.mono HBi.out.size))
        have HO5 := Lib.hid (gen_own_below HOi.out hB5)
        have hq := specR_drop L (j)
        rw [hq.1] at hsp
        have hq2 := hq.2
        have hsp0 : ∀ m, (specR L (j)).1 = some m → 0 < (specR (L.drop (j)) 0).2 := fun m hm => specR_pos (hq.1.trans hm)
        obtain ⟨q, hqd⟩ : ∃ q, (specR L (j)).2 = q := ⟨_, rfl⟩
        obtain ⟨a0, ha0⟩ : ∃ a0, (specR (L.drop (j)) 0).2 = a0 := ⟨_, rfl⟩
        rw [hqd, ha0] at hq2
        rw [ha0] at hsp hsp0
        clear hq hB5 ha0
        rcases hsp with ⟨⟨m1, m2, m3⟩, hm, hx, rfl, rfl⟩ | ⟨hm, rfl, rfl, s1, s2, z, rfl⟩
        case inr =>
          have HSC := Lib.hid (show specs1 L (n + 1) I = (false, q, J) from by rw [HS1.out, HSJ.out, specsR_none J hj hcl hm, hqd])
          have HQ2 := Lib.hid (show D = (false, q, J) from by rw [HQ.out, HSC.out]; simp)
          have hqL : q < L.length := by rw [HSC.out] at hs2; exact hs2
          have hsum : (j : Int) + (b : Int) = (q : Int) := by omega
          clear hsp0 hm hqd
          go_wp2_with fail
          go_ret3
          exact ⟨.inr ⟨by rw [HQ2.out], by rw [HQ2.out]; rfl⟩, HB5.out.alloc HB5.out.size _⟩
        have hx : xv = .agg #[.string m1, .string m2, .int .i64 m3] := hx
        subst hx
        have ha := hsp0 _ hm
        have kaz : ((a : Int) == 0) = false := beq_eq_false_iff_ne.2 (by omega)
        have hba := (Below.refl w5.heap.size w5).alloc (Nat.le_refl _) (.cells #[.string m1, .string m2, .int .i64 m3] 38)
        have HB6 := Lib.hid (HB5.out.trans (hba.mono HB5.out.size))
        have HO6 := Lib.hid (gen_own_below HO5.out hba)
        clear hba hsp0
        have HSX := Lib.hid (show specsR L (n + 2) I = if tSemi (tk L q) = true then specsR L (q + 1) (J ++ [(m1, m2, m3)]) else if (tk L q).2.1 = ⟨#[41]⟩ then specsR L q (J ++ [(m1, m2, m3)]) else (false, q, J ++ [(m1, m2, m3)]) from by
          rw [HSJ.out, specsR_some J hj hcl hm, hqd])
        have hqL : q < L.length := by rw [← hqd]; exact specR_lt HF.out hj
        have hsum : (j : Int) + (a : Int) = (q : Int) := by omega
        have hqI : (q : Int) < (L.length : Int) := by omega
        have hJl : (J ++ [(m1, m2, m3)]).length ≤ q := by simp; omega
        obtain ⟨⟨kq, xq, pq⟩, htq⟩ : ∃ t, tk L q = t := ⟨_, rfl⟩
        have hqs : kq = 6 → q + 1 < L.length := fun h => HF.out.semi hqL (by rw [htq]; unfold tSemi; simp [h])
        have hqc : xq = ⟨#[41]⟩ → kq = 5 := fun h => by have := HC.out q (by rw [htq]; exact h); rw [htq] at this; exact this
        have hqe : kq = 5 → xq = ⟨#[41]⟩ → q + 1 < L.length := fun h1 h2 => HF.out.is (k := 5) (t := ⟨#[41]⟩) hqL (by omega) (by omega) (by rw [htq]; unfold tIs; simp [h1, h2])
        have hcq : kq = 5 → xq = ⟨#[41]⟩ → tIs 5 ⟨#[41]⟩ (tk L q) = true := fun h1 h2 => by rw [htq]; unfold tIs; simp [h1, h2]
        have hse : tSemi (tk L q) = decide (kq = 6) := by rw [htq]; rfl
        have hte : (tk L q).2.1 = xq := by rw [htq]
        rw [hse, hte] at HSX
        have q5 : ((kq : Int) == 5) = decide (kq = 5) := int_eqb kq 5
        have q6 : ((kq : Int) == 6) = decide (kq = 6) := int_eqb kq 6
        have qc := str_lit xq #[41]
        clear hm hqd hse hte
        by_cases h5 : kq = 5
        · have h6 : ¬ kq = 6 := by omega
          rw [decide_eq_true h5] at q5
          rw [decide_eq_false h6] at q6
          have q6n := ne_of_eqb q6
          by_cases hx : xq = ⟨#[41]⟩
          · have hr1 := hqe h5 hx
            have HSC := Lib.hid (show specs1 L (n + 1) I = (true, q + 1, J ++ [(m1, m2, m3)]) from by
              rw [HS1.out, HSX.out, if_neg (by rw [decide_eq_false h6]; decide), if_pos hx, specsR_close _ hqL (hcq h5 hx)])
            obtain ⟨⟨kr, xr, pr⟩, htr⟩ : ∃ t, tk L (q + 1) = t := ⟨_, rfl⟩
            have hr1I : (q : Int) + 1 < (L.length : Int) := by omega
            rw [decide_eq_true hx] at qc
            clear h5 h6 hx hqs hqc hqe hcq HSX
            have HQc := Lib.hid (show D = if tSemi (kr, xr, pr) = true then declR L (q + 1 + 1) (J ++ [(m1, m2, m3)]) else (false, q + 1, J ++ [(m1, m2, m3)]) from by
              rw [HQ.out, HSC.out]
              dsimp only
              rw [htr]
              simp)
            have hsem : tSemi (kr, xr, pr) = decide (kr = 6) := rfl
            rw [hsem] at HQc
            have hrs : kr = 6 → q + 1 + 1 < L.length := fun h => HF.out.semi hr1 (by rw [htr]; unfold tSemi; simp [h])
            have k6 : ((kr : Int) == 6) = decide (kr = 6) := int_eqb kr 6
            clear hsem
            by_cases h6 : kr = 6
            · have hr2 := hrs h6
              have HQ3 := Lib.hid (HQc.out.trans (if_pos (decide_eq_true h6)))
              rw [decide_eq_true h6] at k6
              have k6n := ne_of_eqb k6
              clear h6 hrs
              go_wp2_with (first | (at_builtin; go_must (refine wpList_append_gen eltI rfl (.tmp 75) (.tmp 77) rfl rfl w.heap.size _ J rfl (gen_own_below HO6.out ((Below.refl _ _).alloc (Nat.le_refl _) _)) _ [(m1, m2, m3)] (LAt.block rfl rfl (new2 _ _ _)) rfl (by simp only [List.length_cons, List.length_nil]; omega) (by unfold maxLen; simp only [List.length_cons, List.length_nil]; omega) (by have := HB5.out.size; simp; omega) ?_); intro va wa hoa hga; have hBb := (HB6.out.alloc HB6.out.size (.cells #[.string m1, .string m2, .int .i64 m3] 38)).grown hga (by have := HB6.out.size; simp at this ⊢; omega) (fun k hk => (HO6.out.lt k hk).1); have HBb := Lib.hid hBb; have Hoa := Lib.hid hoa; obtain ⟨_, f0, f1, f2⟩ := HV.out wa hBb q hqL; rw [htq] at f0 f1 f2; dsimp only at f0 f1 f2; clear hBb hoa hga; obtain ⟨_, h0_, h1_, h2_⟩ := HV.out wa HBb.out (q + 1) hr1; rw [htr] at h0_ h1_ h2_; dsimp only at h0_ h1_ h2_))
              go_roundg (L.length - (q + 1 + 1))
              case measure => omega
              case rel => exact ⟨q + 1 + 1, J ++ [(m1, m2, m3)], by omega, by omega, by go_num, by first | omega | (simp; omega), Hoa, HQ3, HBb⟩
            · have HQ3 := Lib.hid (HQc.out.trans (if_neg (by rw [decide_eq_false h6]; decide)))
              rw [decide_eq_false h6] at k6
              have k6n := ne_of_eqb k6
              clear h6 hrs
              go_wp2_with (first | (at_builtin; go_must (refine wpList_append_gen eltI rfl (.tmp 75) (.tmp 77) rfl rfl w.heap.size _ J rfl (gen_own_below HO6.out ((Below.refl _ _).alloc (Nat.le_refl _) _)) _ [(m1, m2, m3)] (LAt.block rfl rfl (new2 _ _ _)) rfl (by simp only [List.length_cons, List.length_nil]; omega) (by unfold maxLen; simp only [List.length_cons, List.length_nil]; omega) (by have := HB5.out.size; simp; omega) ?_); intro va wa hoa hga; have hBb := (HB6.out.alloc HB6.out.size (.cells #[.string m1, .string m2, .int .i64 m3] 38)).grown hga (by have := HB6.out.size; simp at this ⊢; omega) (fun k hk => (HO6.out.lt k hk).1); have HBb := Lib.hid hBb; have Hoa := Lib.hid hoa; obtain ⟨_, f0, f1, f2⟩ := HV.out wa hBb q hqL; rw [htq] at f0 f1 f2; dsimp only at f0 f1 f2; clear hBb hoa hga; obtain ⟨_, h0_, h1_, h2_⟩ := HV.out wa HBb.out (q + 1) hr1; rw [htr] at h0_ h1_ h2_; dsimp only at h0_ h1_ h2_))
              go_ret3
              exact ⟨.inr ⟨by rw [HQ3.out], by rw [HQ3.out]; rfl⟩, HBb.out⟩
          · have HSC := Lib.hid (show specs1 L (n + 1) I = (false, q, J ++ [(m1, m2, m3)]) from by
              rw [HS1.out, HSX.out, if_neg (by rw [decide_eq_false h6]; decide), if_neg hx])
            have HQ2 := Lib.hid (show D = (false, q, J ++ [(m1, m2, m3)]) from by rw [HQ.out, HSC.out]; simp)
            rw [decide_eq_false hx] at qc
            clear h5 h6 hx hqs hqc hqe hcq HSX
            go_wp2_with (first | (at_builtin; go_must (refine wpList_append_gen eltI rfl (.tmp 75) (.tmp 77) rfl rfl w.heap.size _ J rfl (gen_own_below HO6.out ((Below.refl _ _).alloc (Nat.le_refl _) _)) _ [(m1, m2, m3)] (LAt.block rfl rfl (new2 _ _ _)) rfl (by simp only [List.length_cons, List.length_nil]; omega) (by unfold maxLen; simp only [List.length_cons, List.length_nil]; omega) (by have := HB5.out.size; simp; omega) ?_); intro va wa hoa hga; have hBb := (HB6.out.alloc HB6.out.size (.cells #[.string m1, .string m2, .int .i64 m3] 38)).grown hga (by have := HB6.out.size; simp at this ⊢; omega) (fun k hk => (HO6.out.lt k hk).1); have HBb := Lib.hid hBb; have Hoa := Lib.hid hoa; obtain ⟨_, f0, f1, f2⟩ := HV.out wa hBb q hqL; rw [htq] at f0 f1 f2; dsimp only at f0 f1 f2; clear hBb hoa hga))
            go_ret3
            exact ⟨.inr ⟨by rw [HQ2.out], by rw [HQ2.out]; rfl⟩, HBb.out⟩
        rw [decide_eq_false h5] at q5
        by_cases h6 : kq = 6
        · have hr1 := hqs h6
          have HSC := Lib.hid (HSX.out.trans (if_pos (decide_eq_true h6)))
          rw [decide_eq_true h6] at q6
          have q6n := ne_of_eqb q6
          clear h5 h6 hqs hqc hqe hcq HSX
          go_wp2_with (first | (at_builtin; go_must (refine wpList_append_gen eltI rfl (.tmp 75) (.tmp 77) rfl rfl w.heap.size _ J rfl (gen_own_below HO6.out ((Below.refl _ _).alloc (Nat.le_refl _) _)) _ [(m1, m2, m3)] (LAt.block rfl rfl (new2 _ _ _)) rfl (by simp only [List.length_cons, List.length_nil]; omega) (by unfold maxLen; simp only [List.length_cons, List.length_nil]; omega) (by have := HB5.out.size; simp; omega) ?_); intro va wa hoa hga; have hBb := (HB6.out.alloc HB6.out.size (.cells #[.string m1, .string m2, .int .i64 m3] 38)).grown hga (by have := HB6.out.size; simp at this ⊢; omega) (fun k hk => (HO6.out.lt k hk).1); have HBb := Lib.hid hBb; have Hoa := Lib.hid hoa; obtain ⟨_, f0, f1, f2⟩ := HV.out wa hBb q hqL; rw [htq] at f0 f1 f2; dsimp only at f0 f1 f2; clear hBb hoa hga))
          go_roundg (L.length - (q + 1))
          case measure => omega
          case rel => exact ⟨q + 1, J ++ [(m1, m2, m3)], by omega, by omega, by go_num, by omega, by omega, Hoa, HSC, HBb⟩
        · have hx : ¬ xq = ⟨#[41]⟩ := fun h => h5 (hqc h)
          have HSC := Lib.hid (show specs1 L (n + 1) I = (false, q, J ++ [(m1, m2, m3)]) from by
            rw [HS1.out, HSX.out, if_neg (by rw [decide_eq_false h6]; decide), if_neg hx])
          have HQ2 := Lib.hid (show D = (false, q, J ++ [(m1, m2, m3)]) from by rw [HQ.out, HSC.out]; simp)
          rw [decide_eq_false h6] at q6
          have q6n := ne_of_eqb q6
          clear h5 h6 hx hqs hqc hqe hcq HSX
          go_wp2_with (first | (at_builtin; go_must (refine wpList_append_gen eltI rfl (.tmp 75) (.tmp 77) rfl rfl w.heap.size _ J rfl (gen_own_below HO6.out ((Below.refl _ _).alloc (Nat.le_refl _) _)) _ [(m1, m2, m3)] (LAt.block rfl rfl (new2 _ _ _)) rfl (by simp only [List.length_cons, List.length_nil]; omega) (by unfold maxLen; simp only [List.length_cons, List.length_nil]; omega) (by have := HB5.out.size; simp; omega) ?_); intro va wa hoa hga; have hBb := (HB6.out.alloc HB6.out.size (.cells #[.string m1, .string m2, .int .i64 m3] 38)).grown hga (by have := HB6.out.size; simp at this ⊢; omega) (fun k hk => (HO6.out.lt k hk).1); have HBb := Lib.hid hBb; have Hoa := Lib.hid hoa; obtain ⟨_, f0, f1, f2⟩ := HV.out wa hBb q hqL; rw [htq] at f0 f1 f2; dsimp only at f0 f1 f2; clear hBb hoa hga))
          go_ret3
          exact ⟨.inr ⟨by rw [HQ2.out], by rw [HQ2.out]; rfl⟩, HBb.out⟩
      have hcl : tIs 5 ⟨#[41]⟩ (tk L j) = true := by rw [htj]; unfold tIs; simp [hj5, hjx]
      have HSC := Lib.hid (show specs1 L (n + 1) I = (true, j + 1, J) from by rw [HS1.out, HSJ.out, specsR_close J hj hcl])
      have hr1 : j + 1 < L.length := HF.out.is hj (by omega) (by omega) hcl
      have hr1I : (j : Int) + 1 < (L.length : Int) := by omega
      obtain ⟨⟨kr, xr, pr⟩, htr⟩ : ∃ t, tk L (j + 1) = t := ⟨_, rfl⟩
      obtain ⟨_, f0, f1, f2⟩ := HV.out wr HBi.out (j + 1) hr1
      rw [htr] at f0 f1 f2
      dsimp only at f0 f1 f2
      rw [decide_eq_true hjx] at kjc
      have kjcn := ne_of_eqb kjc
      clear hj5 hjx htj hcl
      have HQc := Lib.hid (show D = if tSemi (kr, xr, pr) = true then declR L (j + 1 + 1) (J) else (false, j + 1, J) from by
        rw [HQ.out, HSC.out]
        dsimp only
        rw [htr]
        simp)
      have hsem : tSemi (kr, xr, pr) = decide (kr = 6) := rfl
      rw [hsem] at HQc
      have hrs : kr = 6 → j + 1 + 1 < L.length := fun h => HF.out.semi hr1 (by rw [htr]; unfold tSemi; simp [h])
      have k6 : ((kr : Int) == 6) = decide (kr = 6) := int_eqb kr 6
      clear hsem
      by_cases h6 : kr = 6
      · have hr2 := hrs h6
        have HQ3 := Lib.hid (HQc.out.trans (if_pos (decide_eq_true h6)))
        rw [decide_eq_true h6] at k6
        have k6n := ne_of_eqb k6
        clear h6 hrs
        go_wp2_with fail
        go_roundg (L.length - (j + 1 + 1))
        case measure => omega
        case rel => exact ⟨j + 1 + 1, J, by omega, by omega, by go_num, by first | omega | (simp; omega), HOi, HQ3, HBi⟩
      · have HQ3 := Lib.hid (HQc.out.trans (if_neg (by rw [decide_eq_false h6]; decide)))
        rw [decide_eq_false h6] at k6
        have k6n := ne_of_eqb k6
        clear h6 hrs
        go_wp2_with fail
        go_ret3
        exact ⟨.inr ⟨by rw [HQ3.out], by rw [HQ3.out]; rfl⟩, HBi.out⟩
end Go.Proofs.YtejogobhnbjpdaaGreatDoor
namespace Go.Proofs.YtejogobhnbjpdaaGreatDoor
set_option linter.unusedVariables false
set_option linter.unusedSimpArgs false
open Go.ChangeShapes Go.WideShapes Go.ChangeAt Go.RowKit

/-- A whole line of blanks, from a place to its line feed. -/
structure BL (t : ByteArray) (st e : Nat) : Prop where
  le : st ≤ e
  lt : e < t.size
  lf : byt t e = 10
  at_ : st = 0 ∨ byt t (st - 1) = 10
  thin : ∀ j, st ≤ j → j < e → thinN (byt t j) = true
theorem last_sp (t : ByteArray) {e : Nat} (he : e ≤ t.size) : (Lib.lastIndexByte (t.extract 0 e) 10 = -1 ∧ ∀ j, j < e → byt t j ≠ 10) ∨ ∃ m : Nat, m < e ∧ Lib.lastIndexByte (t.extract 0 e) 10 = m ∧ byt t m = 10 ∧ ∀ j, m < j → j < e → byt t j ≠ 10 := by
  have hz : (t.extract 0 e).size = e := by rw [ByteArray.size_extract]; omega
  have hb : ∀ j, j < e → (((t.extract 0 e).data[j]!).toNat : Int) = (byt t j : Int) := fun j hj => by
    have := byt_ext (s := t) (n := e) he hj
    have e1 : ((t.extract 0 e).data[j]!).toNat = byt (t.extract 0 e) j := rfl
    rw [e1, this]
  rcases Lib.lastIdx_spec (t.extract 0 e) 10 (t.extract 0 e).size with ⟨h1, h2⟩ | ⟨m, hm, h1, h2, h3⟩
  · rw [hz] at h2
    exact .inl ⟨h1, fun j hj h => h2 j hj (by rw [hb j hj, h]; rfl)⟩
  · rw [hz] at hm h3
    refine .inr ⟨m, hm, h1, ?_, fun j h4 h5 h => h3 j h4 h5 (by rw [hb j h5, h]; rfl)⟩
    rw [hb m hm] at h2
    omega
theorem thin10 : thinN 10 = false := by decide
theorem blank_ext {t : ByteArray} {a e : Nat} (he : e ≤ t.size) (hae : a ≤ e) : blankB (t.extract a e) = true ↔ ∀ j, a ≤ j → j < e → thinN (byt t j) = true := by
  have hz : (t.extract a e).size = e - a := by rw [ByteArray.size_extract]; omega
  rw [blankB_iff, hz]
  constructor
  · intro h j h1 h2
    have := h (j - a) (by omega)
    rw [byt_sub he (by omega), show a + (j - a) = j by omega] at this
    exact this
  · intro h j hj
    rw [byt_sub he (by omega)]
    exact h _ (by omega) (by omega)
theorem lbGo_spec (t : ByteArray) : ∀ e, e < t.size → byt t e = 10 → (lbGo t e = -1 ∧ ∀ st e', e' ≤ e → ¬ BL t st e') ∨ ∃ st : Nat, lbGo t e = st ∧ (∃ e', e' ≤ e ∧ BL t st e') ∧ ∀ st' e', e' ≤ e → BL t st' e' → st' ≤ st := by
  intro e
  induction e using Nat.strongRecOn with
  | _ e ih =>
    intro he hlf
    rcases last_sp t (e := e) (by omega) with ⟨h1, h2⟩ | ⟨m, hm, h1, h2, h3⟩
    · rw [lbGo_neg h1]
      have only : ∀ st e', e' ≤ e → BL t st e' → st = 0 ∧ e' = e := fun st e' h4 h => by
        have he' : e' = e := by
          rcases Nat.lt_or_ge e' e with h5 | h5
          · exact absurd h.lf (h2 e' h5)
          · omega
        refine ⟨?_, he'⟩
        rcases h.at_ with h5 | h5
        · exact h5
        · rcases Nat.eq_zero_or_pos st with h6 | h6
          · exact h6
          · exact absurd h5 (h2 (st - 1) (by have := h.le; omega))
      by_cases hb : blankB (t.extract 0 e) = true
      · rw [if_pos hb]
        refine .inr ⟨0, rfl, ⟨e, Nat.le_refl _, ⟨Nat.zero_le _, he, hlf, .inl rfl, (blank_ext (by omega) (Nat.zero_le _)).1 hb⟩⟩, fun st' e' h4 h => ?_⟩
        rw [(only st' e' h4 h).1]
        exact Nat.le_refl _
      · rw [if_neg hb]
        refine .inl ⟨rfl, fun st e' h4 h => hb ?_⟩
        obtain ⟨rfl, rfl⟩ := only st e' h4 h
        exact (blank_ext (by omega) (Nat.zero_le _)).2 h.thin
    · rw [lbGo_pos h1 hm]
      have only : ∀ st, BL t st e → st = m + 1 := fun st h => by
        rcases h.at_ with h5 | h5
        · subst h5
          have := h.thin m (Nat.zero_le _) hm
          rw [h2, thin10] at this
          cases this
        · have hle := h.le
          rcases Nat.eq_zero_or_pos st with h6 | h6
          · subst h6
            have := h.thin m (Nat.zero_le _) hm
            rw [h2, thin10] at this
            cases this
          rcases (by omega : st - 1 < m ∨ st - 1 = m ∨ m < st - 1) with h7 | h7 | h7
          · have := h.thin m (by omega) hm
            rw [h2, thin10] at this
            cases this
          · omega
          · exact absurd h5 (h3 (st - 1) h7 (by omega))
      by_cases hb : blankB (t.extract (m + 1) e) = true
      · rw [if_pos hb]
        refine .inr ⟨m + 1, rfl, ⟨e, Nat.le_refl _, ⟨by omega, he, hlf, .inr h2, (blank_ext (by omega) (by omega)).1 hb⟩⟩, fun st' e' h4 h => ?_⟩
        rcases Nat.eq_or_lt_of_le h4 with h5 | h5
        · subst h5
          rw [only st' h]; exact Nat.le_refl _
        · have hle := h.le
          have : e' ≤ m := by
            rcases Nat.lt_or_ge m e' with h6 | h6
            · exact absurd h.lf (h3 e' h6 h5)
            · exact h6
          omega
      · rw [if_neg hb]
        have low : ∀ st e', e' ≤ e → BL t st e' → e' ≤ m := fun st e' h4 h => by
          rcases Nat.eq_or_lt_of_le h4 with h5 | h5
          · subst h5
            have := only st h
            subst this
            exact absurd ((blank_ext (by omega) (by omega)).2 h.thin) hb
          · rcases Nat.lt_or_ge m e' with h6 | h6
            · exact absurd h.lf (h3 e' h6 h5)
            · exact h6
        rcases ih m hm (by omega) h2 with ⟨g1, g2⟩ | ⟨st, g1, ⟨e', g2, g3⟩, g4⟩
        · exact .inl ⟨g1, fun st e' h4 h => g2 st e' (low st e' h4 h) h⟩
        · exact .inr ⟨st, g1, ⟨e', by omega, g3⟩, fun st' e' h4 h => g4 st' e' (low st' e' h4 h) h⟩
theorem lbR_spec (t : ByteArray) : (lbR t = -1 ∧ ∀ st e, ¬ BL t st e) ∨ ∃ st : Nat, lbR t = st ∧ (∃ e, BL t st e) ∧ ∀ st' e', BL t st' e' → st' ≤ st := by
  have ht := ext_all t
  unfold lbR
  rcases last_sp t (e := t.size) (Nat.le_refl _) with ⟨h1, h2⟩ | ⟨m, hm, h1, h2, h3⟩
  · rw [ht] at h1
    rw [h1, if_pos (by decide)]
    exact .inl ⟨rfl, fun st e h => h2 e h.lt h.lf⟩
  · rw [ht] at h1
    rw [h1, if_neg (by omega), Int.toNat_natCast]
    have low : ∀ st e', BL t st e' → e' ≤ m := fun st e' h => by
      rcases Nat.lt_or_ge m e' with h6 | h6
      · exact absurd h.lf (h3 e' h6 h.lt)
      · exact h6
    rcases lbGo_spec t m hm h2 with ⟨g1, g2⟩ | ⟨st, g1, ⟨e', g2, g3⟩, g4⟩
    · exact .inl ⟨g1, fun st e h => g2 st e (low st e h) h⟩
    · exact .inr ⟨st, g1, ⟨e', g3⟩, fun st' e' h => g4 st' e' (low st' e' h) h⟩
theorem spaced_iff (t : ByteArray) (fr : Nat) : (fr : Int) < lbR t ↔ ∃ st e, BL t st e ∧ fr < st := by
  rcases lbR_spec t with ⟨h1, h2⟩ | ⟨st, h1, ⟨e, h2⟩, h3⟩
  · rw [h1]
    exact ⟨fun h => by omega, fun ⟨st, e, h, _⟩ => absurd h (h2 st e)⟩
  · rw [h1]
    exact ⟨fun h => ⟨st, e, h2, by omega⟩, fun ⟨st', e', h, h4⟩ => by have := h3 st' e' h; omega⟩
theorem lineAt_of {s : ByteArray} {p i : Nat} (hp : p ≤ s.size) (hi : i ≤ p) (h1 : ∀ j, i ≤ j → j < p → byt s j ≠ 10) (h2 : i = 0 ∨ byt s (i - 1) = 10) : lineAt s p = i := by
  unfold lineAt
  rcases last_sp s (e := p) hp with ⟨g1, g2⟩ | ⟨m, hm, g1, g2, g3⟩
  · rw [g1]
    rcases h2 with h2 | h2
    · subst h2; rfl
    · rcases Nat.eq_zero_or_pos i with h3 | h3
      · subst h3; rfl
      · exact absurd h2 (g2 (i - 1) (by omega))
  · rw [g1]
    have e : ((m : Int) + 1).toNat = m + 1 := by omega
    rw [e]
    rcases (by omega : m + 1 < i ∨ m + 1 = i ∨ i ≤ m) with h3 | h3 | h3
    · rcases h2 with h2 | h2
      · omega
      · exact absurd h2 (g3 (i - 1) (by omega) (by omega))
    · exact h3
    · exact absurd g2 (h1 m h3 hm)
theorem mk_ext {s : ByteArray} {i : Nat} (hi : i + 3 ≤ s.size) : s.extract i (i + 3) = mkB ↔ mkAt s i = true := by
  have := pre_ext (s := s) (q := i) (by omega) [239, 187, 191]
  rw [pre_iff s i _ (by omega)] at this
  unfold mkAt
  rw [decide_eq_true_iff]
  constructor
  · intro h
    have h2 := this.2 ⟨hi, by show (s.extract i (i + 3)).data.toList = _; rw [h]⟩
    have e0 := h2.2 0 (by simp)
    have e1 := h2.2 1 (by simp)
    have e2 := h2.2 2 (by simp)
    simp at e0 e1 e2
    exact ⟨e0.symm, e1.symm, e2.symm⟩
  · rintro ⟨h1, h2, h3⟩
    have h4 := this.1 ⟨hi, fun j hj => by
      have hj : j < 3 := hj
      rcases (by omega : j = 0 ∨ j = 1 ∨ j = 2) with rfl | rfl | rfl
      · rw [Nat.add_zero, h1]; rfl
      · rw [h2]; rfl
      · rw [h3]; rfl⟩
    exact ba_ext h4.2
theorem alone_eq (s : ByteArray) (k : Nat) (x : ByteArray) (p : Nat) (h : 2 ≤ x.size ∧ x.extract 0 2 = ⟨#[47, 47]⟩) : aloneB s (k, x, p) = blankB (lineB (s.extract 0 p)) := by
  have := (pre_is (s := x) (p := ⟨#[47, 47]⟩)).2 h
  unfold aloneB
  show (Lib.hasPrefix x.data.toList [47, 47] && _) = _
  have h2 : Lib.hasPrefix x.data.toList [47, 47] = true := this
  rw [h2, Bool.true_and]
theorem alone_not (s : ByteArray) (k : Nat) (x : ByteArray) (p : Nat) (h : ¬ (2 ≤ x.size ∧ x.extract 0 2 = ⟨#[47, 47]⟩)) : aloneB s (k, x, p) = false := by
  unfold aloneB
  have h2 : Lib.hasPrefix x.data.toList [47, 47] = false := by
    rw [Bool.eq_false_iff]
    exact fun h3 => h ((pre_is (s := x) (p := ⟨#[47, 47]⟩)).1 h3)
  show (Lib.hasPrefix x.data.toList [47, 47] && _) = _
  rw [h2, Bool.false_and]
set_option maxRecDepth 100000 in
set_option maxHeartbeats 4000000 in
theorem dalone_any (s : ByteArray) (k : Nat) (x : ByteArray) (p : Nat) (w : World) (hs : s.size ≤ 1048576) (hxs : x.size ≤ 1048576) (hn : Nbm s (skN s) p) (hk : skN s ≤ p) (hp : p ≤ s.size) :
    Calls Tryz.prog 17 #[.string s, .agg #[.int .i64 k, .string x, .int .i64 p]] w fun e w' => e = .returned (.bool (aloneB s (k, x, p))) ∧ Below w.heap.size w w' := by
  have hq := heap_alloc_new w (.cells #[.int .i64 k, .string x, .int .i64 p] 35)
  have HB1 := Lib.hid ((Below.refl w.heap.size w).alloc (Nat.le_refl _) (.cells #[.int .i64 k, .string x, .int .i64 p] 35))
  have hA := alone_doc hn hk hp
  have hAE := Lib.hid (fun h => (alone_eq s k x p h).trans hA.symm)
  have hAN := Lib.hid (fun h => alone_not s k x p h)
  have HL := Lib.hid (fun i (h0 : i ≤ p) h1 h2 => lineAt_of (s := s) (p := p) (i := i) hp h0 h1 h2)
  have HT := Lib.hid (fun c w1 => thin_any c w1)
  obtain ⟨ans, hans⟩ : ∃ ans, aloneB s (k, x, p) = ans := ⟨_, rfl⟩
  rw [hans] at hAE hAN ⊢
  clear hA hans hn hk
  generalize hw1 : w.alloc (.cells #[.int .i64 k, .string x, .int .i64 p] 35) = w1 at *
  have c1 := block_cell hq 1
  have c2 := block_cell hq 2
  have Hw1 := Lib.hid hw1
  clear hq hw1
  by_cases h2 : 2 ≤ x.size
  case neg =>
    have h2I : (x.size : Int) < 2 := by omega
    have HF := Lib.hid (hAN.out (fun h => h2 h.1))
    go_enter Tryz.func17, Tryz.ntmps17
    go_wp2_with fail
    rw [Hw1.out]
    go_wp2_with fail
    go_ret
    exact ⟨by rw [HF.out]; rfl, HB1.out⟩
  have h2I : ¬ (x.size : Int) < 2 := by omega
  have h2L : (2 : Int) ≤ (x.size : Int) := by omega
  have ke := str_lit (x.extract 0 2) #[47, 47]
  by_cases he : x.extract 0 2 = ⟨#[47, 47]⟩
  case neg =>
    have HF := Lib.hid (hAN.out (fun h => he h.2))
    rw [decide_eq_false he] at ke
    have ken := ne_of_eqb ke
    clear he
    go_enter Tryz.func17, Tryz.ntmps17
    go_wp2_with fail
    rw [Hw1.out]
    go_wp2_with fail
    go_ret
    exact ⟨by rw [HF.out]; rfl, HB1.out⟩
  have HG := Lib.hid (hAE.out ⟨h2, he⟩)
  rw [decide_eq_true he] at ke
  have ken := ne_of_eqb ke
  clear he hAE hAN
  go_enter Tryz.func17, Tryz.ntmps17
  go_wp2_with fail
  rw [Hw1.out]
  go_wp2_with fail
  clear c1
  go_loopg [5] p (fun g iv wr => ∃ i : Nat, i = g ∧ i ≤ p ∧ iv = .int .i64 i ∧ Hid (∀ j, i ≤ j → j < p → byt s j ≠ 10) ∧ w1 = wr)
  case atStart => exact ⟨p, rfl, Nat.le_refl _, rfl, Lib.hid (fun j h1 h2 => by omega), rfl⟩
  case round =>
    obtain ⟨i, rfl, hip, rfl, HI, rfl⟩ := hrel
    by_cases hi0 : 0 < i
    case neg =>
      have HGi := Lib.hid (show ans = goR s p i from by rw [HG.out, HL.out i hip HI.out (.inl (by omega))])
      have hiI0 : ¬ (0 : Int) < (i : Int) := by omega
      have hbx : True := trivial
      go_wp2_with fail
      clear hiI0 hbx
      go_loopg [5] (p - i) (fun g iv wz => ∃ j : Nat, p - j = g ∧ i ≤ j ∧ j ≤ p ∧ iv = .int .i64 j ∧ Hid (ans = goR s p j) ∧ w1 = wz)
      case atStart => exact ⟨i, rfl, Nat.le_refl _, hip, rfl, HGi, rfl⟩
      case round =>
        obtain ⟨j, rfl, hij, hjp, rfl, HGj, rfl⟩ := hrel
        by_cases hj : j < p
        case neg =>
          have hjI : ¬ (j : Int) < (p : Int) := by omega
          have HR := Lib.hid (HGj.out.trans (goR_end hj))
          go_wp2_with fail
          go_ret
          exact ⟨by rw [HR.out]; rfl, HB1.out⟩
        have hjI : (j : Int) < (p : Int) := by omega
        have hjs : j < s.size := by omega
        have hjsI : (j : Int) < (s.size : Int) := by omega
        obtain ⟨c, hc⟩ : ∃ c, s[j]'hjs = c := ⟨_, rfl⟩
        have hcb : c.toNat = byt s j := by rw [← hc]; unfold byt; rw [get_is s j hjs]
        have HX := Lib.hid (fun wx => HT.out c wx)
        cases hth : thinN c.toNat with
        | true =>
          have HR := Lib.hid (HGj.out.trans (goR_thin hj (by rw [← hcb]; exact hth)))
          rw [hth] at HX
          clear hth hcb
          go_wp2_with fail
          refine (HX.out _).mono ?_
          rintro r wx ⟨rfl, rfl⟩
          go_wp2_with fail
          go_roundg (p - (j + 1))
          case measure => omega
          case rel => exact ⟨j + 1, rfl, by omega, by omega, by go_num, HR, rfl⟩
        | false =>
          rw [hth] at HX
          by_cases h3 : j + 3 ≤ p
          case neg =>
            have HR := Lib.hid (HGj.out.trans (goR_no hj (by rw [← hcb]; exact hth) (fun h => h3 h.1)))
            have h3I : ¬ (3 : Int) ≤ (p : Int) - (j : Int) := by omega
            clear hth hcb
            go_wp2_with fail
            refine (HX.out _).mono ?_
            rintro r wx ⟨rfl, rfl⟩
            go_wp2_with fail
            go_ret
            exact ⟨by rw [HR.out]; rfl, HB1.out⟩
          have h3I : (3 : Int) ≤ (p : Int) - (j : Int) := by omega
          have h3s : (j : Int) + 3 ≤ (s.size : Int) := by omega
          have km := str_lit (s.extract j (j + 3)) #[239, 187, 191]
          have hmk := mk_ext (s := s) (i := j) (by omega)
          by_cases hm : s.extract j (j + 3) = mkB
          · have HR := Lib.hid (HGj.out.trans (goR_mark h3 (hmk.1 hm)))
            rw [decide_eq_true hm] at km
            have kmn := ne_of_eqb km
            clear hth hcb hmk hm
            go_wp2_with fail
            refine (HX.out _).mono ?_
            rintro r wx ⟨rfl, rfl⟩
            go_wp2_with fail
            go_roundg (p - (j + 3))
            case measure => omega
            case rel => exact ⟨j + 3, rfl, by omega, by omega, by go_num, HR, rfl⟩
          · have HR := Lib.hid (HGj.out.trans (goR_no hj (by rw [← hcb]; exact hth) (fun h => hm (hmk.2 h.2))))
            rw [decide_eq_false hm] at km
            have kmn := ne_of_eqb km
            clear hth hcb hmk hm
            go_wp2_with fail
            refine (HX.out _).mono ?_
            rintro r wx ⟨rfl, rfl⟩
            go_wp2_with fail
            go_ret
            exact ⟨by rw [HR.out]; rfl, HB1.out⟩
    have hiI0 : (0 : Int) < (i : Int) := by omega
    have hi1 : i - 1 < s.size := by omega
    have hi1I : (i : Int) - 1 = ((i - 1 : Nat) : Int) := by omega
    have hi1S : ((i - 1 : Nat) : Int) < (s.size : Int) := by omega
    have kb : (((s[i - 1]'hi1).toNat : Int) == 10) = decide (s[i - 1]'hi1 = 10) := u8_eqb (s[i - 1]'hi1) 10
    have hbb : (s[i - 1]'hi1).toNat = byt s (i - 1) := by unfold byt; rw [get_is s _ hi1]
    by_cases hlf : s[i - 1]'hi1 = 10
    · have HGi := Lib.hid (show ans = goR s p i from by rw [HG.out, HL.out i hip HI.out (.inr (by rw [← hbb, hlf]; rfl))])
      rw [decide_eq_true hlf] at kb
      have kbn := ne_of_eqb kb
      have hbx : True := trivial
      clear hlf hbb
      go_wp2_with fail
      clear hiI0 hbx
      go_loopg [5] (p - i) (fun g iv wz => ∃ j : Nat, p - j = g ∧ i ≤ j ∧ j ≤ p ∧ iv = .int .i64 j ∧ Hid (ans = goR s p j) ∧ w1 = wz)
      case atStart => exact ⟨i, rfl, Nat.le_refl _, hip, rfl, HGi, rfl⟩
      case round =>
        obtain ⟨j, rfl, hij, hjp, rfl, HGj, rfl⟩ := hrel
        by_cases hj : j < p
        case neg =>
          have hjI : ¬ (j : Int) < (p : Int) := by omega
          have HR := Lib.hid (HGj.out.trans (goR_end hj))
          go_wp2_with fail
          go_ret
          exact ⟨by rw [HR.out]; rfl, HB1.out⟩
        have hjI : (j : Int) < (p : Int) := by omega
        have hjs : j < s.size := by omega
        have hjsI : (j : Int) < (s.size : Int) := by omega
        obtain ⟨c, hc⟩ : ∃ c, s[j]'hjs = c := ⟨_, rfl⟩
        have hcb : c.toNat = byt s j := by rw [← hc]; unfold byt; rw [get_is s j hjs]
        have HX := Lib.hid (fun wx => HT.out c wx)
        cases hth : thinN c.toNat with
        | true =>
          have HR := Lib.hid (HGj.out.trans (goR_thin hj (by rw [← hcb]; exact hth)))
          rw [hth] at HX
          clear hth hcb
          go_wp2_with fail
          refine (HX.out _).mono ?_
          rintro r wx ⟨rfl, rfl⟩
          go_wp2_with fail
          go_roundg (p - (j + 1))
          case measure => omega
          case rel => exact ⟨j + 1, rfl, by omega, by omega, by go_num, HR, rfl⟩
        | false =>
          rw [hth] at HX
          by_cases h3 : j + 3 ≤ p
          case neg =>
            have HR := Lib.hid (HGj.out.trans (goR_no hj (by rw [← hcb]; exact hth) (fun h => h3 h.1)))
            have h3I : ¬ (3 : Int) ≤ (p : Int) - (j : Int) := by omega
            clear hth hcb
            go_wp2_with fail
            refine (HX.out _).mono ?_
            rintro r wx ⟨rfl, rfl⟩
            go_wp2_with fail
            go_ret
            exact ⟨by rw [HR.out]; rfl, HB1.out⟩
          have h3I : (3 : Int) ≤ (p : Int) - (j : Int) := by omega
          have h3s : (j : Int) + 3 ≤ (s.size : Int) := by omega
          have km := str_lit (s.extract j (j + 3)) #[239, 187, 191]
          have hmk := mk_ext (s := s) (i := j) (by omega)
          by_cases hm : s.extract j (j + 3) = mkB
          · have HR := Lib.hid (HGj.out.trans (goR_mark h3 (hmk.1 hm)))
            rw [decide_eq_true hm] at km
            have kmn := ne_of_eqb km
            clear hth hcb hmk hm
            go_wp2_with fail
            refine (HX.out _).mono ?_
            rintro r wx ⟨rfl, rfl⟩
            go_wp2_with fail
            go_roundg (p - (j + 3))
            case measure => omega
            case rel => exact ⟨j + 3, rfl, by omega, by omega, by go_num, HR, rfl⟩
          · have HR := Lib.hid (HGj.out.trans (goR_no hj (by rw [← hcb]; exact hth) (fun h => hm (hmk.2 h.2))))
            rw [decide_eq_false hm] at km
            have kmn := ne_of_eqb km
            clear hth hcb hmk hm
            go_wp2_with fail
            refine (HX.out _).mono ?_
            rintro r wx ⟨rfl, rfl⟩
            go_wp2_with fail
            go_ret
            exact ⟨by rw [HR.out]; rfl, HB1.out⟩
    · have HI2 := Lib.hid (show ∀ j, i - 1 ≤ j → j < p → byt s j ≠ 10 from fun j h1 h2 => by
        rcases Nat.lt_or_ge j i with h3 | h3
        · rw [show j = i - 1 by omega, ← hbb]
          exact fun h => hlf (UInt8.toNat_inj.1 h)
        · exact HI.out j h3 h2)
      rw [decide_eq_false hlf] at kb
      have kbn := ne_of_eqb kb
      clear hlf hbb
      go_wp2_with fail
      go_roundg (i - 1)
      case measure => omega
      case rel => exact ⟨i - 1, rfl, by omega, by first | rfl | go_num, HI2, rfl⟩
/-- Spaced: does a whole line of blanks begin behind a place? -/
def spB (s : ByteArray) (fr up : Nat) : Bool := decide ((fr : Int) < lbR (s.extract 0 up))
theorem spB_yes {s : ByteArray} {fr up st e : Nat} (h : BL (s.extract 0 up) st e) (hf : fr < st) : spB s fr up = true := decide_eq_true ((spaced_iff _ _).2 ⟨st, e, h, hf⟩)
theorem spB_no {s : ByteArray} {fr up : Nat} (h : ∀ st e, BL (s.extract 0 up) st e → ¬ fr < st) : spB s fr up = false := decide_eq_false (fun k => by
  obtain ⟨st, e, h1, h2⟩ := (spaced_iff _ _).1 k
  exact h st e h1 h2)
set_option maxRecDepth 100000 in
set_option maxHeartbeats 4000000 in
theorem dspaced_any (s : ByteArray) (fr up : Nat) (w : World) (hs : s.size ≤ 1048576) (hfu : fr ≤ up) (hu : up ≤ s.size) :
    Calls Tryz.prog 33 #[.string s, .int .i64 fr, .int .i64 up] w fun e w' => e = .returned (.bool (spB s fr up)) ∧ w = w' := by
  have HT := Lib.hid (fun t w1 (h : t.size ≤ 1048576) => dtrim_any t w1 h)
  have hz : (s.extract 0 up).size = up := by rw [ByteArray.size_extract]; omega
  have hby : ∀ j, j < up → byt (s.extract 0 up) j = byt s j := fun j hj => byt_ext hu hj
  have HY := Lib.hid (fun st e h hf => spB_yes (s := s) (fr := fr) (up := up) (st := st) (e := e) h hf)
  have HN := Lib.hid (fun h => spB_no (s := s) (fr := fr) (up := up) h)
  have Hby := Lib.hid hby
  have Hz := Lib.hid hz
  obtain ⟨ans, hans⟩ : ∃ ans, spB s fr up = ans := ⟨_, rfl⟩
  rw [hans] at HY HN ⊢
  clear hans hz hby
  go_enter Tryz.func33, Tryz.ntmps33
  go_wp2_with fail
  go_loopg [7, 8] (up - fr) (fun g lv iv wr => ∃ i : Nat, up - i = g ∧ fr ≤ i ∧ i ≤ up ∧ iv = .int .i64 i ∧ w = wr ∧ Hid (∀ st e, e < i → BL (s.extract 0 up) st e → ¬ fr < st) ∧
    ((lv = .int .i64 (-1) ∧ Hid (∀ j, fr ≤ j → j < i → byt s j ≠ 10)) ∨ ∃ l : Nat, lv = .int .i64 l ∧ fr < l ∧ l ≤ i ∧ Hid (byt s (l - 1) = 10 ∧ ∀ j, l ≤ j → j < i → byt s j ≠ 10)))
  case atStart => exact ⟨fr, rfl, Nat.le_refl _, hfu, rfl, rfl, Lib.hid (fun st e h1 h2 h3 => by have := h2.le; omega), .inl ⟨rfl, Lib.hid (fun j h1 h2 => by omega)⟩⟩
  case round =>
    obtain ⟨i, rfl, hfi, hiu, rfl, rfl, HB, hl⟩ := hrel
    by_cases hi : i < up
    case neg =>
      have hiI : ¬ (i : Int) < (up : Int) := by omega
      have HR := Lib.hid (HN.out (fun st e h => HB.out st e (by have := h.lt; have := Hz.out; omega) h))
      rcases hl with ⟨rfl, _⟩ | ⟨l, rfl, _, _, _⟩
      · go_wp2_with fail
        go_ret
        exact ⟨by rw [HR.out]; rfl, rfl⟩
      · go_wp2_with fail
        go_ret
        exact ⟨by rw [HR.out]; rfl, rfl⟩
    have hiI : (i : Int) < (up : Int) := by omega
    have his : i < s.size := by omega
    have hisI : (i : Int) < (s.size : Int) := by omega
    have kb : (((s[i]'his).toNat : Int) == 10) = decide (s[i]'his = 10) := u8_eqb (s[i]'his) 10
    have hbb : (s[i]'his).toNat = byt s i := by unfold byt; rw [get_is s _ his]
    by_cases hlf : s[i]'his = 10
    case neg =>
      have hne : byt s i ≠ 10 := fun h => hlf (UInt8.toNat_inj.1 (hbb.trans h))
      have HB2 := Lib.hid (show ∀ st e, e < i + 1 → BL (s.extract 0 up) st e → ¬ fr < st from fun st e h1 h2 => by
        rcases Nat.lt_or_ge e i with h3 | h3
        · exact HB.out st e h3 h2
        · exfalso
          have : e = i := by omega
          subst this
          exact hne (by rw [← Hby.out e hi]; exact h2.lf))
      rw [decide_eq_false hlf] at kb
      clear hlf hbb
      rcases hl with ⟨rfl, Hl⟩ | ⟨l, rfl, hfl, hli, Hl⟩
      · have Hl2 := Lib.hid (show ∀ j, fr ≤ j → j < i + 1 → byt s j ≠ 10 from fun j h1 h2 => by
          rcases Nat.lt_or_ge j i with h3 | h3
          · exact Hl.out j h1 h3
          · rw [show j = i by omega]; exact hne)
        clear hne
        go_wp2_with fail
        go_roundg (up - (i + 1))
        case measure => omega
        case rel => exact ⟨i + 1, rfl, by omega, by omega, by go_num, rfl, HB2, .inl ⟨rfl, Hl2⟩⟩
      · have Hl2 := Lib.hid (show byt s (l - 1) = 10 ∧ ∀ j, l ≤ j → j < i + 1 → byt s j ≠ 10 from ⟨Hl.out.1, fun j h1 h2 => by
          rcases Nat.lt_or_ge j i with h3 | h3
          · exact Hl.out.2 j h1 h3
          · rw [show j = i by omega]; exact hne⟩)
        clear hne
        go_wp2_with fail
        go_roundg (up - (i + 1))
        case measure => omega
        case rel => exact ⟨i + 1, rfl, by omega, by omega, by go_num, rfl, HB2, .inr ⟨l, rfl, hfl, by omega, Hl2⟩⟩
    have h10 : byt s i = 10 := by rw [← hbb, hlf]; rfl
    have HNL := Lib.hid (show byt s (i + 1 - 1) = 10 ∧ ∀ j, i + 1 ≤ j → j < i + 1 → byt s j ≠ 10 from ⟨h10, fun j h1 h2 => by omega⟩)
    rw [decide_eq_true hlf] at kb
    clear hlf hbb
    rcases hl with ⟨rfl, Hl⟩ | ⟨l, rfl, hfl, hli, Hl⟩
    · have HB2 := Lib.hid (show ∀ st e, e < i + 1 → BL (s.extract 0 up) st e → ¬ fr < st from fun st e h1 h2 h5 => by
        rcases Nat.lt_or_ge e i with h3 | h3
        · exact HB.out st e h3 h2 h5
        · have he : e = i := by omega
          subst he
          have hle := h2.le
          rcases h2.at_ with h4 | h4
          · omega
          · rw [Hby.out _ (by omega)] at h4
            exact Hl.out (st - 1) (by omega) (by omega) h4)
      clear h10
      go_wp2_with fail
      go_roundg (up - (i + 1))
      case measure => omega
      case rel => exact ⟨i + 1, rfl, by omega, by omega, by go_num, rfl, HB2, .inr ⟨i + 1, by go_num, by omega, Nat.le_refl _, HNL⟩⟩
    · have hl0 : (0 : Int) ≤ (l : Int) := by omega
      have hliI : (l : Int) ≤ (i : Int) := by omega
      have hisL : (i : Int) ≤ (s.size : Int) := by omega
      have htz : (s.extract l i).size ≤ 1048576 := Nat.le_trans (ext_size _ _ _) hs
      have HX := Lib.hid (fun w1 => HT.out (s.extract l i) w1 htz)
      have kt := str_lit (trimB (s.extract l i)) #[]
      have hbl := blank_ext (t := s) (a := l) (e := i) (by omega) hli
      have hbd : blankB (s.extract l i) = decide (trimB (s.extract l i) = ⟨#[]⟩) := rfl
      have hthin : (∀ j, l ≤ j → j < i → thinN (byt s j) = true) → BL (s.extract 0 up) l i := fun h => ⟨hli, by rw [Hz.out]; exact hi, by rw [Hby.out i hi]; exact h10, .inr (by rw [Hby.out _ (by omega)]; exact Hl.out.1), fun j h1 h2 => by rw [Hby.out j (by omega)]; exact h j h1 h2⟩
      by_cases hb : trimB (s.extract l i) = ⟨#[]⟩
      · have HR := Lib.hid (HY.out l i (hthin (hbl.1 (by rw [hbd]; exact decide_eq_true hb))) hfl)
        rw [decide_eq_true hb] at kt
        clear hb hbl hbd hthin htz h10
        go_wp2_with fail
        refine (HX.out _).mono ?_
        rintro r w1 ⟨rfl, rfl⟩
        go_wp2_with fail
        go_ret
        exact ⟨by rw [HR.out]; rfl, rfl⟩
      · have HB2 := Lib.hid (show ∀ st e, e < i + 1 → BL (s.extract 0 up) st e → ¬ fr < st from fun st e h1 h2 h5 => by
          rcases Nat.lt_or_ge e i with h3 | h3
          · exact HB.out st e h3 h2 h5
          · have he : e = i := by omega
            subst he
            have hle := h2.le
            rcases h2.at_ with h4 | h4
            · omega
            · rw [Hby.out _ (by omega)] at h4
              rcases (by omega : st - 1 < l - 1 ∨ st - 1 = l - 1 ∨ l ≤ st - 1) with h6 | h6 | h6
              · have := h2.thin (l - 1) (by omega) (by omega)
                rw [Hby.out _ (by omega), Hl.out.1, thin10] at this
                cases this
              · have hst : st = l := by omega
                subst hst
                apply hb
                have := hbl.2 (fun j h7 h8 => by rw [← Hby.out j (by omega)]; exact h2.thin j h7 h8)
                rw [hbd] at this
                exact of_decide_eq_true this
              · exact Hl.out.2 (st - 1) h6 (by omega) h4)
        rw [decide_eq_false hb] at kt
        clear hb hbl hbd hthin htz h10
        go_wp2_with fail
        refine (HX.out _).mono ?_
        rintro r w1 ⟨rfl, rfl⟩
        go_wp2_with fail
        go_roundg (up - (i + 1))
        case measure => omega
        case rel => exact ⟨i + 1, rfl, by omega, by omega, by go_num, rfl, HB2, .inr ⟨i + 1, by go_num, by omega, Nat.le_refl _, HNL⟩⟩
end Go.Proofs.YtejogobhnbjpdaaGreatDoor
namespace Go.Proofs.YtejogobhnbjpdaaGreatDoor
set_option linter.unusedVariables false
set_option linter.unusedSimpArgs false
open Go.ChangeShapes Go.WideShapes Go.ChangeAt Go.RowKit

theorem slash_list {x : ByteArray} (h : Lib.hasPrefix x.data.toList [47, 47] = true) : x.data.toList = 47 :: 47 :: (behind x).data.toList := by
  have e : (behind x).data.toList = x.data.toList.drop 2 := by
    unfold behind
    rw [Lib.extract_data, List.take_of_length_le]
    rw [List.length_drop, ← Lib.size_eq]; exact Nat.le_refl _
  rw [e]
  cases hx : x.data.toList with
  | nil => rw [hx] at h; cases h
  | cons a r =>
    cases r with
    | nil => rw [hx] at h; simp [Lib.hasPrefix] at h
    | cons b r =>
      rw [hx] at h
      simp [Lib.hasPrefix] at h
      rw [← h.1, ← h.2]; rfl
theorem dir_slash {x p q : ByteArray} (h : Lib.hasPrefix x.data.toList [47, 47] = true) (hq : q.data.toList = 47 :: 47 :: p.data.toList) : dirR x q = dirR (behind x) p := by
  have hl := slash_list h
  have e1 : Lib.hasPrefix x.data.toList q.data.toList = Lib.hasPrefix (behind x).data.toList p.data.toList := by
    rw [hl, hq]
    simp [Lib.hasPrefix, List.isPrefixOf]
  have e2 : Lib.hasPrefix x.data.toList q.data.toList = true → cutB x q = cutB (behind x) p := fun h1 => by
    apply ba_ext
    show Lib.trimPrefix x.data.toList q.data.toList = Lib.trimPrefix (behind x).data.toList p.data.toList
    unfold Lib.trimPrefix
    rw [if_pos h1, if_pos (by rw [← e1]; exact h1), hl, hq]
    rfl
  unfold dirR
  by_cases h1 : Lib.hasPrefix x.data.toList q.data.toList = true
  · rw [if_pos h1, if_pos (by rw [← e1]; exact h1)]
    simp only [e2 h1]
  · rw [if_neg h1, if_neg (by rw [← e1]; exact h1)]
abbrev dBuild : ByteArray := ⟨#[47, 47, 103, 111, 58, 98, 117, 105, 108, 100]⟩
abbrev dEmbed : ByteArray := ⟨#[47, 47, 103, 111, 58, 101, 109, 98, 101, 100]⟩
theorem build_slash {x : ByteArray} (h : Lib.hasPrefix x.data.toList [47, 47] = true) : dirR x dBuild = buildD x := dir_slash h rfl
theorem embed_slash {x : ByteArray} (h : Lib.hasPrefix x.data.toList [47, 47] = true) : dirR x dEmbed = embD x := dir_slash h rfl
/-- The comments that the document looks at ahead of the clause. -/
def fl (s : ByteArray) (first : Nat) (M : List Tk) : List Tk := (M.filter (aloneB s)).filter (inB (-1) first)
theorem fl_cons (s : ByteArray) (first : Nat) (x : Tk) (M : List Tk) : fl s first (x :: M) = if x.2.2 < first ∧ aloneB s x = true then x :: fl s first M else fl s first M := by
  have hi : inB (-1) first x = decide (x.2.2 < first) := by
    unfold inB
    rw [decide_eq_true (show (-1 : Int) < (x.2.2 : Int) by omega), Bool.true_and]
    exact decide_eq_decide.2 (by omega)
  unfold fl
  by_cases ha : aloneB s x = true
  · rw [List.filter_cons_of_pos ha]
    by_cases hl : x.2.2 < first
    · rw [List.filter_cons_of_pos (by rw [hi]; exact decide_eq_true hl), if_pos ⟨hl, ha⟩]
    · rw [List.filter_cons_of_neg (by rw [hi]; simpa using hl), if_neg (fun h => hl h.1)]
  · rw [List.filter_cons_of_neg ha, if_neg (fun h => ha h.2)]
theorem fl_no {s : ByteArray} {first : Nat} {x : Tk} {M : List Tk} (h : ¬ (x.2.2 < first ∧ aloneB s x = true)) : fl s first (x :: M) = fl s first M := by rw [fl_cons, if_neg h]
theorem fl_yes {s : ByteArray} {first : Nat} {x : Tk} {M : List Tk} (h1 : x.2.2 < first) (h2 : aloneB s x = true) : fl s first (x :: M) = x :: fl s first M := by rw [fl_cons, if_pos ⟨h1, h2⟩]
theorem joinB_nil : joinB [] = ⟨#[]⟩ := rfl
theorem joinB_snoc (L : List ByteArray) (x : ByteArray) : joinB (L ++ [x]) = if L = [] then x else joinB L ++ ⟨#[10]⟩ ++ x := by
  have key : ∀ (L : List (List UInt8)) (y : List UInt8), L ≠ [] → Lib.join (L ++ [y]) [10] = Lib.join L [10] ++ [10] ++ y := by
    intro L
    induction L with
    | nil => intro y h; exact absurd rfl h
    | cons a L ih =>
      intro y _
      cases L with
      | nil => simp [Lib.join, List.intercalate]
      | cons b L =>
        have h1 := ih y (by simp)
        have c : ∀ (R : List (List UInt8)) (a b : List UInt8), Lib.join (a :: b :: R) [10] = a ++ [10] ++ Lib.join (b :: R) [10] := fun R a b => by simp [Lib.join, List.intercalate]
        rw [List.cons_append, List.cons_append, c, c, ← List.cons_append, h1]
        simp
  by_cases h : L = []
  · subst h
    rw [if_pos rfl]
    apply ba_ext
    show Lib.join ([x.data.toList]) [10] = _
    simp [Lib.join, List.intercalate]
  · rw [if_neg h]
    apply ba_ext
    show Lib.join ((L ++ [x]).map (·.data.toList)) [10] = _
    rw [List.map_append, List.map_singleton, key _ _ (by simpa using h), ByteArray.data_append, ByteArray.data_append, Array.toList_append, Array.toList_append]
    rfl
theorem own_shape {w : World} {base : Nat} {e : TypeId} {n : Nat} {v : Value} {k : Nat} {xs : List Value} (h : w.ownsRow base e n v k xs) : ∃ p c, v = .slice p k c := by
  rcases h.2 with ⟨rfl, rfl⟩ | ⟨g, cap, cur, rfl, _⟩
  · exact ⟨_, _, rfl⟩
  · exact ⟨_, _, rfl⟩
def spN (c : Nat) : Bool := decide (c = 32 ∨ c = 9)
theorem trimLB_of {r : ByteArray} {i : Nat} (hi : i ≤ r.size) (h1 : ∀ j, j < i → spN (byt r j) = true) (h2 : i = r.size ∨ spN (byt r i) = false) : trimLB r = r.extract i r.size := by
  have hcon : ∀ c : UInt8, ([32, 9] : List UInt8).contains c = spN c.toNat := fun c => by
    unfold spN
    by_cases e1 : c = 32
    · subst e1; rfl
    by_cases e2 : c = 9
    · subst e2; rfl
    have g1 : c.toNat ≠ 32 := fun h => e1 (UInt8.toNat_inj.1 h)
    have g2 : c.toNat ≠ 9 := fun h => e2 (UInt8.toNat_inj.1 h)
    rw [decide_eq_false (by omega)]
    simp [e1, e2]
  have hget : ∀ (j : Nat) b, r.data.toList[j]? = some b → j < r.size ∧ b.toNat = byt r j := fun j b hb => by
    have hjl : j < r.size := by have := (List.getElem?_eq_some_iff.1 hb).1; simpa using this
    rw [byt_list hjl] at hb
    injection hb with hb
    exact ⟨hjl, by rw [← hb]; rfl⟩
  apply ba_ext
  show Lib.trimLeftS r.data.toList [32, 9] = _
  rw [Lib.trimLeftS_drop _ _ i (by rw [← Lib.size_eq]; exact hi) (fun j b hj hb => by rw [hcon, (hget j b hb).2]; exact h1 j hj) (fun b hb => by
    obtain ⟨g1, g2⟩ := hget i b hb
    rw [hcon, g2]
    rcases h2 with h2 | h2
    · omega
    · exact h2)]
  rw [Lib.extract_data, List.take_of_length_le]
  rw [List.length_drop, ← Lib.size_eq]; exact Nat.le_refl _
/-- What the document's Build wants of each comment. -/
def NoteB (s : ByteArray) (x : Tk) : Prop := x.2.1.size ≤ 1048576 ∧ Nbm s (skN s) x.2.2 ∧ skN s ≤ x.2.2 ∧ x.2.2 ≤ s.size
theorem empty_app (x : ByteArray) : (⟨#[]⟩ : ByteArray) ++ x = x := by
  apply ba_ext
  rw [ByteArray.data_append, Array.toList_append]; rfl
end Go.Proofs.YtejogobhnbjpdaaGreatDoor
namespace Go.Proofs.YtejogobhnbjpdaaGreatDoor
set_option linter.unusedVariables false
set_option linter.unusedSimpArgs false
open Go.ChangeShapes Go.WideShapes Go.ChangeAt Go.RowKit

set_option maxRecDepth 100000 in
set_option maxHeartbeats 8000000 in
theorem dbuild_any (s : ByteArray) (M : List Tk) (v : Value) (first : Nat) (w : World) (hv : LAt 3 tkV w v M) (hM : M.length ≤ 4194304) (hP : ∀ x ∈ M, NoteB s x) (hs : s.size ≤ 1048576) (hf0 : first ≤ s.size) :
    Calls Tryz.prog 15 #[.string s, v, .int .i64 first] w fun e w' => e = .returned (.tuple #[.string (conR s (fl s first M) first).1, .int .i64 (conR s (fl s first M) first).2]) ∧ Below w.heap.size w w' := by
  obtain ⟨pp, cap, rfl, hp⟩ := hv.shape
  have HV := Lib.hid hv
  have Hp := Lib.hid hp
  have HP := Lib.hid hP
  obtain ⟨len, hl⟩ : ∃ len, len = M.length := ⟨_, rfl⟩
  rw [← hl] at HV Hp hM ⊢
  have Hl := Lib.hid hl
  obtain ⟨last, hlast⟩ : ∃ last, lbR (s.extract 0 first) = last := ⟨_, rfl⟩
  have Hlast := Lib.hid hlast
  have HC2 := Lib.hid (fun p b (h : conGo (fl s first M) ⟨#[]⟩ = (some p, b)) => conR_two (s := s) (first := first) h)
  have HC1 := Lib.hid (fun b (h : conGo (fl s first M) ⟨#[]⟩ = (none, b)) => conR_one (s := s) (first := first) h)
  rw [hlast] at HC1
  generalize conR s (fl s first M) first = cr at *
  clear hv hp hP hl hlast
  go_enter Tryz.func15, Tryz.ntmps15
  go_wp2_with fail
  go_loopg [8, 9, 10, 19] len (fun g pv ov fv iv wr => ∃ (kk : Nat) (P : List ByteArray) (b : ByteArray) (fb : Bool), kk + g = len ∧ iv = .int .i64 kk ∧ ov = .string b ∧ fv = .bool fb ∧ Hid (fb = decide (b ≠ ⟨#[]⟩)) ∧ Hid (wr.ownsRow w.heap.size 9 1 pv P.length (LF strV P)) ∧ P.length ≤ kk ∧ Hid (∀ y ∈ P, y.size ≤ 1048577) ∧ b.size ≤ 1048576 ∧
    Hid (conGo (fl s first M) ⟨#[]⟩ = conGo (fl s first (M.drop kk)) b) ∧ Hid ((fl s first M).filterMap (plusL last) = P ++ (fl s first (M.drop kk)).filterMap (plusL last)) ∧ Hid (Below w.heap.size w wr))
  case atStart => exact ⟨0, [], ⟨#[]⟩, false, by omega, rfl, rfl, rfl, Lib.hid (by decide), Lib.hid ⟨rfl, .inl ⟨rfl, rfl⟩⟩, Nat.le_refl _, Lib.hid (fun y hy => by cases hy), Nat.zero_le _, Lib.hid (by rw [List.drop_zero]), Lib.hid (by rw [List.drop_zero, List.nil_append]), Lib.hid (Below.refl _ _)⟩
  case round =>
    obtain ⟨kk, P, b, fb, hkg, rfl, rfl, rfl, HFB, HO, hPk, HPS, hbs, HCG, HPL, HB⟩ := hrel
    obtain ⟨pP, cP, rfl⟩ := own_shape HO.out
    have hPm : P.length ≤ 4194304 := by omega
    by_cases hlt : kk < len
    case neg =>
      have hnI : ¬ (kk : Int) < (len : Int) := by omega
      have hd : M.drop kk = [] := List.drop_of_length_le (by have := Hl.out; omega)
      have HE1 := Lib.hid (HCG.out.trans (by rw [hd]; rfl : conGo (fl s first (M.drop kk)) b = (none, b)))
      have HE2 := Lib.hid (HPL.out.trans (by rw [hd]; exact List.append_nil _ : P ++ (fl s first (M.drop kk)).filterMap (plusL last) = P))
      have HR := Lib.hid (HC1.out b HE1.out)
      clear hd HCG HPL
      cases fb with
      | true =>
        have hb := of_decide_eq_true HFB.out.symm
        have HR2 := Lib.hid (show cr = (b, -1) from HR.out.trans (if_neg hb))
        clear hb
        go_wp2_with fail
        go_loopg [9, 16] 1 (fun g ov iv wz => g = 1 ∧ ov = .string b ∧ iv = .int .i64 0 ∧ Hid (Below w.heap.size w wz))
        case atStart => exact ⟨rfl, rfl, rfl, HB⟩
        case round =>
          obtain ⟨rfl, rfl, rfl, HBz⟩ := hrel
          by_cases hp0 : 0 < P.length
          · have hp0I : (0 : Int) < (P.length : Int) := by omega
            go_wp2_with fail
            go_ret2
            exact ⟨by rw [HR2.out]; rfl, HBz.out⟩
          · have hp0I : ¬ (0 : Int) < (P.length : Int) := by omega
            go_wp2_with fail
            go_ret2
            exact ⟨by rw [HR2.out]; rfl, HBz.out⟩
      | false =>
        have hb : b = ⟨#[]⟩ := by
          have := of_decide_eq_false HFB.out.symm
          exact Classical.byContradiction (fun h => this h)
        subst hb
        have HR2 := Lib.hid (show cr = (joinB P, -1) from HR.out.trans (by rw [if_pos rfl]; unfold elderR; rw [HE2.out]))
        have HJ := Lib.hid (LAt.own (fun y _ => strV_len y) HO.out)
        have hcut : ∀ i, i ≤ P.length → (joinB (P.take i)).size ≤ i * 1048578 := fun i hi => by
          have h1 := join_len 1048577 (P.take i) (fun y hy => HPS.out y (List.mem_of_mem_take hy))
          rw [List.length_take, Nat.min_eq_left hi] at h1
          have h2 : (joinB (P.take i)).size = (Lib.join ((P.take i).map (·.data.toList)) [10]).length := by
            show (Lib.join ((P.take i).map (·.data.toList)) [10]).toArray.size = _
            simp
          rw [h2]; exact h1
        have Hcut := Lib.hid hcut
        clear hcut
        go_wp2_with fail
        go_loopg [9, 16] P.length (fun g ov iv wz => ∃ i : Nat, i + g = P.length ∧ ov = .string (joinB (P.take i)) ∧ iv = .int .i64 i ∧ wz = wr)
        case atStart => exact ⟨0, by omega, rfl, rfl, rfl⟩
        case round =>
          obtain ⟨i, hig, rfl, rfl, rfl⟩ := hrel
          by_cases hip : i < P.length
          case neg =>
            have hiI : ¬ (i : Int) < (P.length : Int) := by omega
            have HT := Lib.hid (show P.take i = P from List.take_of_length_le (by omega))
            go_wp2_with fail
            go_ret2
            exact ⟨by rw [HR2.out]; exact congrArg (fun z => Ending.returned (Value.tuple #[.string (joinB z), .int .i64 (-1)])) HT.out, HB.out⟩
          have hiI : (i : Int) < (P.length : Int) := by omega
          obtain ⟨pq, cq, hpq, hp1⟩ := lat_shape HJ.out
          injection hpq with q1 q2 q3
          subst q1; subst q3
          obtain ⟨g1, o1, rfl⟩ := hp1 (by omega)
          obtain ⟨hgl, c0⟩ := str_cell HJ.out (List.getElem?_eq_getElem hip)
          have hx := HPS.out _ (List.getElem_mem hip)
          have hjs := Hcut.out i (by omega)
          have hsn := joinB_snoc (P.take i) P[i]
          rw [← List.take_succ_eq_append_getElem hip] at hsn
          by_cases hi0 : 0 < i
          · have hi0I : (0 : Int) < (i : Int) := by omega
            have HSN := Lib.hid (hsn.trans (if_neg (fun h => by
              have h2 : (P.take i).length = 0 := by rw [h]; rfl
              rw [List.length_take] at h2
              omega)))
            have hz1 : (joinB (P.take i) ++ ⟨#[10]⟩).size = (joinB (P.take i)).size + 1 := ByteArray.size_append
            generalize joinB (P.take i) = J at *
            generalize P[i] = y at *
            have hm : J.size ≤ 4398054899712 := Nat.le_trans hjs (by omega)
            clear hsn hjs
            go_wp2_with fail
            go_roundg (P.length - (i + 1))
            case measure => omega
            case rel => exact ⟨i + 1, by omega, congrArg Value.string HSN.out.symm, by go_num, rfl⟩
          · have hi0I : ¬ (0 : Int) < (i : Int) := by omega
            have hi00 : i = 0 := by omega
            have HSN := Lib.hid (show joinB (P.take (i + 1)) = joinB (P.take i) ++ P[i] from by
              have h0 : P.take i = [] := by rw [hi00]; rfl
              rw [hsn, if_pos h0, h0, joinB_nil, empty_app])
            generalize joinB (P.take i) = J at *
            generalize P[i] = y at *
            have hm : J.size ≤ 4398054899712 := Nat.le_trans hjs (by omega)
            clear hsn hjs hi00
            go_wp2_with fail
            go_roundg (P.length - (i + 1))
            case measure => omega
            case rel => exact ⟨i + 1, by omega, congrArg Value.string HSN.out.symm, by go_num, rfl⟩
    have hltI : (kk : Int) < (len : Int) := by omega
    have hiM : kk < M.length := by have := Hl.out; omega
    obtain ⟨g1, o1, rfl⟩ := Hp.out (by omega)
    obtain ⟨⟨k, x, p⟩, hx⟩ : ∃ t, M[kk]? = some t := ⟨_, List.getElem?_eq_getElem hiM⟩
    obtain ⟨hxz, hn1, hn2, hn3⟩ := HP.out _ (List.mem_of_getElem? hx)
    change x.size ≤ 1048576 at hxz
    change Nbm s (skN s) p at hn1
    change skN s ≤ p at hn2
    change p ≤ s.size at hn3
    obtain ⟨hg1, e0, e1, e2⟩ := HV.out.cells hx
    have e0 := (HB.out.cell (p := ⟨g1, o1 + kk * 3, none⟩) hg1).trans e0
    have e1 := (HB.out.cell (p := ⟨g1, o1 + kk * 3 + 1, none⟩) hg1).trans e1
    have e2 := (HB.out.cell (p := ⟨g1, o1 + kk * 3 + 2, none⟩) hg1).trans e2
    have hdr : M.drop kk = (k, x, p) :: M.drop (kk + 1) := by
      rw [List.drop_eq_getElem_cons hiM]
      rw [List.getElem?_eq_getElem hiM] at hx
      injection hx with hx
      rw [hx]
    rw [hdr] at HCG HPL
    have HNO := Lib.hid (fun h => fl_no (s := s) (first := first) (x := (k, x, p)) (M := M.drop (kk + 1)) h)
    have hba := (Below.refl wr.heap.size wr).alloc (Nat.le_refl _) (.cells #[.int .i64 k, .string x, .int .i64 p] 35)
    have HBa := Lib.hid (HB.out.trans (hba.mono HB.out.size))
    have HOa := Lib.hid (gen_own_below HO.out hba)
    have Hnew := Lib.hid (heap_alloc_new wr (.cells #[.int .i64 k, .string x, .int .i64 p] 35))
    have HA := Lib.hid (fun w1 => dalone_any s k x p w1 hs hxz hn1 hn2 hn3)
    clear hba hdr hx hn1
    by_cases hpf : p < first
    case neg =>
      have hpfI : ¬ (p : Int) < (first : Int) := by omega
      have hpfG : (first : Int) ≤ (p : Int) := by omega
      have HN2 := Lib.hid (HNO.out (fun h => hpf h.1))
      rw [HN2.out] at HCG HPL
      clear HNO
      go_wp2_with fail
      go_roundg (gk - 1)
      case measure => omega
      case rel => exact ⟨kk + 1, P, b, fb, by omega, by go_num, rfl, rfl, HFB, HOa, by omega, HPS, hbs, HCG, HPL, HBa⟩
    have hpfI : (p : Int) < (first : Int) := by omega
    have hpfG : ¬ (first : Int) ≤ (p : Int) := by omega
    obtain ⟨al, hal⟩ : ∃ al, aloneB s (k, x, p) = al := ⟨_, rfl⟩
    rw [hal] at HA
    cases al with
    | false =>
      have HN2 := Lib.hid (HNO.out (fun h => Bool.noConfusion (hal.symm.trans h.2)))
      rw [HN2.out] at HCG HPL
      clear HNO hal
      go_wp2_with fail
      refine (HA.out _).mono ?_
      rintro r w4 ⟨rfl, hB⟩
      have HB4 := Lib.hid (HBa.out.trans (hB.mono HBa.out.size))
      have HO4 := Lib.hid (gen_own_below HOa.out hB)
      clear hB
      go_wp2_with fail
      go_roundg (gk - 1)
      case measure => omega
      case rel => exact ⟨kk + 1, P, b, fb, by omega, by go_num, rfl, rfl, HFB, HO4, by omega, HPS, hbs, HCG, HPL, HB4⟩
    | true =>
      have hyes := fl_yes (M := M.drop (kk + 1)) hpf hal
      have hsl : Lib.hasPrefix x.data.toList [47, 47] = true := by
        have h := hal
        unfold aloneB at h
        exact (Bool.and_eq_true _ _ ▸ h).1
      have hz2 : 2 ≤ x.size := by
        have h := congrArg List.length (slash_list hsl)
        rw [Lib.size_eq, h]
        simp only [List.length_cons]; omega
      have hzI : (2 : Int) ≤ (x.size : Int) := by omega
      rw [hyes] at HCG HPL
      have HD := Lib.hid (fun w1 => dwords_any x dBuild w1 hxz (by decide))
      rw [build_slash hsl] at HD
      have hdz := buildD_size x
      have HC0 := Lib.hid (fun h => HCG.out.trans (conGo_no (x := (k, x, p)) h))
      have HC1 := Lib.hid (fun h hb => HCG.out.trans (conGo_two (x := (k, x, p)) h hb))
      have HC2' := Lib.hid (fun h hb => by
        have h1 := HCG.out
        rw [hb] at h1
        exact h1.trans (conGo_new (x := (k, x, p)) h) : (buildD x).2 = true → b = ⟨#[]⟩ → conGo (fl s first M) ⟨#[]⟩ = conGo (fl s first (M.drop (kk + 1))) (if (buildD x).1 = ⟨#[]⟩ then ⟨#[32]⟩ else (buildD x).1))
      change Hid ((buildD x).2 = false → _) at HC0
      change Hid ((buildD x).2 = true → _) at HC1
      have hf : (fl s first M).filterMap (plusL last) = (P ++ (plusL last (k, x, p)).toList) ++ (fl s first (M.drop (kk + 1))).filterMap (plusL last) := by
        rw [HPL.out, List.filterMap_cons, List.append_assoc]
        cases plusL last (k, x, p) <;> rfl
      have hpl : plusL last (k, x, p) = if (plusD x).2 = true ∧ (p : Int) < last then some (⟨#[43]⟩ ++ (plusD x).1) else none := rfl
      rw [hpl] at hf
      have hbz := Nat.le_trans (trimLB_size (x.extract 2 x.size)) (Nat.le_trans (behind_size x) hxz)
      have HD2 := Lib.hid (fun w1 => dwords_any (trimLB (x.extract 2 x.size)) wPlus w1 (by omega) (by decide))
      have hdz3 := plusD_size x
      change Hid (∀ w1, Calls Tryz.prog 18 #[.string (trimLB (x.extract 2 x.size)), .string wPlus] w1 fun e w' => e = .returned (.tuple #[.string (plusD x).1, .bool (plusD x).2]) ∧ w1 = w') at HD2
      have HSP := Lib.hid (fun w1 => dspaced_any s p first w1 hs (by omega) hf0)
      change Hid (∀ w1, Calls Tryz.prog 33 #[.string s, .int .i64 p, .int .i64 first] w1 fun e w' => e = .returned (.bool (decide ((p : Int) < lbR (s.extract 0 first)))) ∧ w1 = w') at HSP
      rw [Hlast.out] at HSP
      obtain ⟨bd, hbd⟩ : ∃ bd, (buildD x).2 = bd := ⟨_, rfl⟩
      rw [hbd] at HD HC0 HC1 HC2'
      clear hbd
      obtain ⟨tl, htl⟩ : ∃ tl, trimLB (x.extract 2 x.size) = tl := ⟨_, rfl⟩
      have HTL := Lib.hid htl
      rw [htl] at HD2 hbz
      clear htl
      generalize (plusD x).1 = d at *
      generalize (plusD x).2 = db at *
      generalize (buildD x).1 = wd at *
      have hwdz : wd.size ≤ 1048576 := Nat.le_trans hdz hxz
      have hdz2 : d.size ≤ 1048576 := Nat.le_trans hdz3 hxz
      clear hdz hdz3 hpl hsl hyes HPL HCG HNO hal
      go_wp2_with fail
      generalize wr.alloc (.cells #[.int .i64 k, .string x, .int .i64 p] 35) = w2 at *
      refine (HA.out _).mono ?_
      rintro r w4 ⟨rfl, hB⟩
      have HB4 := Lib.hid (HBa.out.trans (hB.mono HBa.out.size))
      have HO4 := Lib.hid (gen_own_below HOa.out hB)
      have hn4 := (hB.block wr.heap.size (lt_of_block Hnew.out)).trans Hnew.out
      have c1 := block_cell hn4 1
      have c2 := block_cell hn4 2
      clear hB HBa Hnew HOa hn4 HA
      go_wp2_with fail
      refine (HD.out _).mono ?_
      rintro r w5 ⟨rfl, rfl⟩
      cases bd
      case false =>
        have HCG2 := Lib.hid (HC0.out rfl)
        have HFB2 := HFB
        clear HC0 HC1 HC2'
        go_wp2_with fail
        clear e0 e1 e2
        obtain ⟨gko, rfl⟩ : ∃ gko : Nat, gko = gk := ⟨_, rfl⟩
        go_loopg [15] (x.size - 2) (fun g xv wz => ∃ i : Nat, i + g = x.size - 2 ∧ xv = .string ((x.extract 2 x.size).extract i (x.extract 2 x.size).size) ∧ Hid (∀ j, j < i → spN (byt (x.extract 2 x.size) j) = true) ∧ wz = w4)
        case atStart => exact ⟨0, by omega, by rw [ext_all], Lib.hid (fun j hj => by omega), rfl⟩
        case round =>
          obtain ⟨i, hig, rfl, HI, rfl⟩ := hrel
          have hrz : (x.extract 2 x.size).size = x.size - 2 := by rw [ByteArray.size_extract]; omega
          have hz : ((x.extract 2 x.size).extract i (x.extract 2 x.size).size).size = (x.extract 2 x.size).size - i := by rw [ByteArray.size_extract]; omega
          by_cases hi : i < (x.extract 2 x.size).size
          case neg =>
            have HUT := Lib.hid (show (x.extract 2 x.size).extract i (x.extract 2 x.size).size = tl from by
              rw [← HTL.out]
              exact (trimLB_of (by omega) HI.out (.inl (by omega))).symm)
            have hzz : ¬ (0 : Int) < (((x.extract 2 x.size).extract i (x.extract 2 x.size).size).size : Int) := by omega
            generalize (x.extract 2 x.size).extract i (x.extract 2 x.size).size = u at *
            go_wp2_with fail
            rw [HUT.out]
            go_wp2_with fail
            refine (HD2.out _).mono ?_
            rintro r w5 ⟨rfl, rfl⟩
            cases db
            case false =>
              have Hf := Lib.hid (hf.trans (by rw [if_neg (fun h => Bool.noConfusion h.1), Option.toList_none, List.append_nil]))
              go_wp2_with fail
              go_roundg (gko - 1)
              case measure => omega
              case rel => exact ⟨kk + 1, P, b, fb, by omega, by go_num, rfl, rfl, HFB2, HO4, by omega, HPS, hbs, HCG2, Hf, HB4⟩
            have HSP2 := Lib.hid (fun w1 => HSP.out w1)
            by_cases hpl2 : (p : Int) < last
            case neg =>
              have Hf := Lib.hid (hf.trans (by rw [if_neg (fun h => hpl2 h.2), Option.toList_none, List.append_nil]))
              rw [decide_eq_false hpl2] at HSP2
              clear hpl2 hf
              go_wp2_with fail
              refine (HSP2.out _).mono ?_
              rintro r w6 ⟨rfl, rfl⟩
              go_wp2_with fail
              go_roundg (gko - 1)
              case measure => omega
              case rel => exact ⟨kk + 1, P, b, fb, by omega, by go_num, rfl, rfl, HFB2, HO4, by omega, HPS, hbs, HCG2, Hf, HB4⟩
            have Hf := Lib.hid (hf.trans (by rw [if_pos ⟨rfl, hpl2⟩, Option.toList_some]))
            rw [decide_eq_true hpl2] at HSP2
            have z1 : (⟨#[43]⟩ : ByteArray).size = 1 := rfl
            clear hf hpl2
            go_wp2_with fail
            refine (HSP2.out _).mono ?_
            rintro r w6 ⟨rfl, rfl⟩
            go_wp2_with (first | (at_builtin; go_must (refine wpList_append_gen eltS rfl (.tmp 80) (.tmp 83) rfl rfl w.heap.size _ P rfl (gen_own_below HO4.out ((Below.refl _ _).alloc (Nat.le_refl _) _)) _ [⟨#[43]⟩ ++ d] (LAt.block rfl rfl (heap_alloc_new _ _)) rfl (by simp only [List.length_cons, List.length_nil]; omega) (by unfold maxLen; simp only [List.length_cons, List.length_nil]; omega) (by have := HB4.out.size; simp; omega) ?_); intro va wa hoa hga))
            have hBb := (HB4.out.alloc HB4.out.size (.cells #[.string (⟨#[43]⟩ ++ d)] 9)).grown hga (by have := HB4.out.size; simp at this ⊢; omega) (fun k hk => (HO4.out.lt k hk).1)
            have HBb := Lib.hid hBb
            have Hoa := Lib.hid hoa
            have HS2 := Lib.hid (show ∀ x ∈ P ++ [⟨#[43]⟩ ++ d], x.size ≤ 1048577 from fun x hx => by
              rcases List.mem_append.1 hx with h | h
              · exact HPS.out x h
              · rw [List.mem_singleton.1 h, ByteArray.size_append, z1]; omega)
            clear hBb hoa hga
            go_wp2_with fail
            go_roundg (gko - 1)
            case measure => omega
            case rel => exact ⟨kk + 1, P ++ [⟨#[43]⟩ ++ d], b, fb, by omega, by go_num, rfl, rfl, HFB2, Hoa, by simp; omega, HS2, hbs, HCG2, Hf, HBb⟩
          have hb0 : byt ((x.extract 2 x.size).extract i (x.extract 2 x.size).size) 0 = byt (x.extract 2 x.size) i := by rw [byt_sub (Nat.le_refl _) (by omega), Nat.add_zero]
          have htl := Lib.hid (ext_tail (x.extract 2 x.size) i (x.extract 2 x.size).size (Nat.le_refl _) hi)
          have HUT := Lib.hid (fun (h : spN (byt (x.extract 2 x.size) i) = false) => show (x.extract 2 x.size).extract i (x.extract 2 x.size).size = tl from by
            rw [← HTL.out]
            exact (trimLB_of (by omega) HI.out (.inr h)).symm)
          have HI2 := Lib.hid (fun (h : spN (byt (x.extract 2 x.size) i) = true) => show ∀ j, j < i + 1 → spN (byt (x.extract 2 x.size) j) = true from fun j hj => by
            rcases Nat.lt_or_ge j i with h2 | h2
            · exact HI.out j h2
            · rw [show j = i by omega]; exact h)
          obtain ⟨u, hu⟩ : ∃ u, (x.extract 2 x.size).extract i (x.extract 2 x.size).size = u := ⟨_, rfl⟩
          rw [hu] at hz hb0 htl HUT ⊢
          have h0 : 0 < u.size := by omega
          have h0I : (0 : Int) < (u.size : Int) := by omega
          have h1I : (1 : Int) ≤ (u.size : Int) := by omega
          obtain ⟨y, hy⟩ : ∃ y, u[0]'h0 = y := ⟨_, rfl⟩
          have hyb : y.toNat = byt (x.extract 2 x.size) i := by
            rw [← hb0, ← hy]; unfold byt; rw [get_is u 0 h0]
          rw [← hyb] at HUT HI2
          have k1 : ((y.toNat : Int) == 32) = decide (y = 32) := u8_eqb y 32
          have k2 : ((y.toNat : Int) == 9) = decide (y = 9) := u8_eqb y 9
          clear hb0 hyb hu
          by_cases y1 : y = 32
          · rw [decide_eq_true y1] at k1
            have HI3 := Lib.hid (HI2.out (by rw [y1]; rfl))
            clear k2 y1 HUT HI2
            go_wp2_with fail
            go_roundg (gk - 1)
            case measure => omega
            case rel => exact ⟨i + 1, by omega, congrArg Value.string (by rw [← hrz, ← hz]; exact htl.out), HI3, rfl⟩
          by_cases y2 : y = 9
          · rw [decide_eq_false y1] at k1
            rw [decide_eq_true y2] at k2
            have HI3 := Lib.hid (HI2.out (by rw [y2]; rfl))
            clear y1 y2 HUT HI2
            go_wp2_with fail
            go_roundg (gk - 1)
            case measure => omega
            case rel => exact ⟨i + 1, by omega, congrArg Value.string (by rw [← hrz, ← hz]; exact htl.out), HI3, rfl⟩
          have HUT := Lib.hid (HUT.out (decide_eq_false (by
            rintro (h | h)
            · exact y1 (UInt8.toNat_inj.1 h)
            · exact y2 (UInt8.toNat_inj.1 h))))
          rw [decide_eq_false y1] at k1
          rw [decide_eq_false y2] at k2
          clear y1 y2 HI2 htl
          go_wp2_with fail
          rw [HUT.out]
          go_wp2_with fail
          refine (HD2.out _).mono ?_
          rintro r w5 ⟨rfl, rfl⟩
          cases db
          case false =>
            have Hf := Lib.hid (hf.trans (by rw [if_neg (fun h => Bool.noConfusion h.1), Option.toList_none, List.append_nil]))
            go_wp2_with fail
            go_roundg (gko - 1)
            case measure => omega
            case rel => exact ⟨kk + 1, P, b, fb, by omega, by go_num, rfl, rfl, HFB2, HO4, by omega, HPS, hbs, HCG2, Hf, HB4⟩
          have HSP2 := Lib.hid (fun w1 => HSP.out w1)
          by_cases hpl2 : (p : Int) < last
          case neg =>
            have Hf := Lib.hid (hf.trans (by rw [if_neg (fun h => hpl2 h.2), Option.toList_none, List.append_nil]))
            rw [decide_eq_false hpl2] at HSP2
            clear hpl2 hf
            go_wp2_with fail
            refine (HSP2.out _).mono ?_
            rintro r w6 ⟨rfl, rfl⟩
            go_wp2_with fail
            go_roundg (gko - 1)
            case measure => omega
            case rel => exact ⟨kk + 1, P, b, fb, by omega, by go_num, rfl, rfl, HFB2, HO4, by omega, HPS, hbs, HCG2, Hf, HB4⟩
          have Hf := Lib.hid (hf.trans (by rw [if_pos ⟨rfl, hpl2⟩, Option.toList_some]))
          rw [decide_eq_true hpl2] at HSP2
          have z1 : (⟨#[43]⟩ : ByteArray).size = 1 := rfl
          clear hf hpl2
          go_wp2_with fail
          refine (HSP2.out _).mono ?_
          rintro r w6 ⟨rfl, rfl⟩
          go_wp2_with (first | (at_builtin; go_must (refine wpList_append_gen eltS rfl (.tmp 80) (.tmp 83) rfl rfl w.heap.size _ P rfl (gen_own_below HO4.out ((Below.refl _ _).alloc (Nat.le_refl _) _)) _ [⟨#[43]⟩ ++ d] (LAt.block rfl rfl (heap_alloc_new _ _)) rfl (by simp only [List.length_cons, List.length_nil]; omega) (by unfold maxLen; simp only [List.length_cons, List.length_nil]; omega) (by have := HB4.out.size; simp; omega) ?_); intro va wa hoa hga))
          have hBb := (HB4.out.alloc HB4.out.size (.cells #[.string (⟨#[43]⟩ ++ d)] 9)).grown hga (by have := HB4.out.size; simp at this ⊢; omega) (fun k hk => (HO4.out.lt k hk).1)
          have HBb := Lib.hid hBb
          have Hoa := Lib.hid hoa
          have HS2 := Lib.hid (show ∀ x ∈ P ++ [⟨#[43]⟩ ++ d], x.size ≤ 1048577 from fun x hx => by
            rcases List.mem_append.1 hx with h | h
            · exact HPS.out x h
            · rw [List.mem_singleton.1 h, ByteArray.size_append, z1]; omega)
          clear hBb hoa hga
          go_wp2_with fail
          go_roundg (gko - 1)
          case measure => omega
          case rel => exact ⟨kk + 1, P ++ [⟨#[43]⟩ ++ d], b, fb, by omega, by go_num, rfl, rfl, HFB2, Hoa, by simp; omega, HS2, hbs, HCG2, Hf, HBb⟩
      cases fb with
      | true =>
        have hb := of_decide_eq_true HFB.out.symm
        have HF := Lib.hid (HC2.out _ _ (HC1.out rfl hb))
        clear HC0 HC1 HC2'
        go_wp2_with fail
        go_region
        all_goals (try go_wp2_with fail)
        all_goals go_ret2
        all_goals exact ⟨by rw [HF.out]; rfl, HB4.out.drew⟩
      | false =>
        have hb : b = ⟨#[]⟩ := by
          have := of_decide_eq_false HFB.out.symm
          exact Classical.byContradiction (fun h => this h)
        have HF := Lib.hid (HC2'.out rfl hb)
        have hde : (wd.toList == ([] : List UInt8)) = decide (wd = ⟨#[]⟩) := str_lit wd #[]
        clear HC0 HC1 HC2' hb
        by_cases hd : wd = ⟨#[]⟩
        · rw [decide_eq_true hd] at hde
          have HCG2 := Lib.hid (show conGo (fl s first M) ⟨#[]⟩ = conGo (fl s first (M.drop (kk + 1))) ⟨#[32]⟩ from by rw [HF.out, if_pos hd])
          have HFB2 : Hid (true = decide ((⟨#[32]⟩ : ByteArray) ≠ ⟨#[]⟩)) := Lib.hid (by decide)
          clear HF hd
          go_wp2_with fail
          clear e0 e1 e2
          obtain ⟨gko, rfl⟩ : ∃ gko : Nat, gko = gk := ⟨_, rfl⟩
          go_loopg [15] (x.size - 2) (fun g xv wz => ∃ i : Nat, i + g = x.size - 2 ∧ xv = .string ((x.extract 2 x.size).extract i (x.extract 2 x.size).size) ∧ Hid (∀ j, j < i → spN (byt (x.extract 2 x.size) j) = true) ∧ wz = w4)
          case atStart => exact ⟨0, by omega, by rw [ext_all], Lib.hid (fun j hj => by omega), rfl⟩
          case round =>
            obtain ⟨i, hig, rfl, HI, rfl⟩ := hrel
            have hrz : (x.extract 2 x.size).size = x.size - 2 := by rw [ByteArray.size_extract]; omega
            have hz : ((x.extract 2 x.size).extract i (x.extract 2 x.size).size).size = (x.extract 2 x.size).size - i := by rw [ByteArray.size_extract]; omega
            by_cases hi : i < (x.extract 2 x.size).size
            case neg =>
              have HUT := Lib.hid (show (x.extract 2 x.size).extract i (x.extract 2 x.size).size = tl from by
                rw [← HTL.out]
                exact (trimLB_of (by omega) HI.out (.inl (by omega))).symm)
              have hzz : ¬ (0 : Int) < (((x.extract 2 x.size).extract i (x.extract 2 x.size).size).size : Int) := by omega
              generalize (x.extract 2 x.size).extract i (x.extract 2 x.size).size = u at *
              go_wp2_with fail
              rw [HUT.out]
              go_wp2_with fail
              refine (HD2.out _).mono ?_
              rintro r w5 ⟨rfl, rfl⟩
              cases db
              case false =>
                have Hf := Lib.hid (hf.trans (by rw [if_neg (fun h => Bool.noConfusion h.1), Option.toList_none, List.append_nil]))
                go_wp2_with fail
                go_roundg (gko - 1)
                case measure => omega
                case rel => exact ⟨kk + 1, P, ⟨#[32]⟩, true, by omega, by go_num, rfl, rfl, HFB2, HO4, by omega, HPS, (by decide), HCG2, Hf, HB4⟩
              have HSP2 := Lib.hid (fun w1 => HSP.out w1)
              by_cases hpl2 : (p : Int) < last
              case neg =>
                have Hf := Lib.hid (hf.trans (by rw [if_neg (fun h => hpl2 h.2), Option.toList_none, List.append_nil]))
                rw [decide_eq_false hpl2] at HSP2
                clear hpl2 hf
                go_wp2_with fail
                refine (HSP2.out _).mono ?_
                rintro r w6 ⟨rfl, rfl⟩
                go_wp2_with fail
                go_roundg (gko - 1)
                case measure => omega
                case rel => exact ⟨kk + 1, P, ⟨#[32]⟩, true, by omega, by go_num, rfl, rfl, HFB2, HO4, by omega, HPS, (by decide), HCG2, Hf, HB4⟩
              have Hf := Lib.hid (hf.trans (by rw [if_pos ⟨rfl, hpl2⟩, Option.toList_some]))
              rw [decide_eq_true hpl2] at HSP2
              have z1 : (⟨#[43]⟩ : ByteArray).size = 1 := rfl
              clear hf hpl2
              go_wp2_with fail
              refine (HSP2.out _).mono ?_
              rintro r w6 ⟨rfl, rfl⟩
              go_wp2_with (first | (at_builtin; go_must (refine wpList_append_gen eltS rfl (.tmp 80) (.tmp 83) rfl rfl w.heap.size _ P rfl (gen_own_below HO4.out ((Below.refl _ _).alloc (Nat.le_refl _) _)) _ [⟨#[43]⟩ ++ d] (LAt.block rfl rfl (heap_alloc_new _ _)) rfl (by simp only [List.length_cons, List.length_nil]; omega) (by unfold maxLen; simp only [List.length_cons, List.length_nil]; omega) (by have := HB4.out.size; simp; omega) ?_); intro va wa hoa hga))
              have hBb := (HB4.out.alloc HB4.out.size (.cells #[.string (⟨#[43]⟩ ++ d)] 9)).grown hga (by have := HB4.out.size; simp at this ⊢; omega) (fun k hk => (HO4.out.lt k hk).1)
              have HBb := Lib.hid hBb
              have Hoa := Lib.hid hoa
              have HS2 := Lib.hid (show ∀ x ∈ P ++ [⟨#[43]⟩ ++ d], x.size ≤ 1048577 from fun x hx => by
                rcases List.mem_append.1 hx with h | h
                · exact HPS.out x h
                · rw [List.mem_singleton.1 h, ByteArray.size_append, z1]; omega)
              clear hBb hoa hga
              go_wp2_with fail
              go_roundg (gko - 1)
              case measure => omega
              case rel => exact ⟨kk + 1, P ++ [⟨#[43]⟩ ++ d], ⟨#[32]⟩, true, by omega, by go_num, rfl, rfl, HFB2, Hoa, by simp; omega, HS2, (by decide), HCG2, Hf, HBb⟩
            have hb0 : byt ((x.extract 2 x.size).extract i (x.extract 2 x.size).size) 0 = byt (x.extract 2 x.size) i := by rw [byt_sub (Nat.le_refl _) (by omega), Nat.add_zero]
            have htl := Lib.hid (ext_tail (x.extract 2 x.size) i (x.extract 2 x.size).size (Nat.le_refl _) hi)
            have HUT := Lib.hid (fun (h : spN (byt (x.extract 2 x.size) i) = false) => show (x.extract 2 x.size).extract i (x.extract 2 x.size).size = tl from by
              rw [← HTL.out]
              exact (trimLB_of (by omega) HI.out (.inr h)).symm)
            have HI2 := Lib.hid (fun (h : spN (byt (x.extract 2 x.size) i) = true) => show ∀ j, j < i + 1 → spN (byt (x.extract 2 x.size) j) = true from fun j hj => by
              rcases Nat.lt_or_ge j i with h2 | h2
              · exact HI.out j h2
              · rw [show j = i by omega]; exact h)
            obtain ⟨u, hu⟩ : ∃ u, (x.extract 2 x.size).extract i (x.extract 2 x.size).size = u := ⟨_, rfl⟩
            rw [hu] at hz hb0 htl HUT ⊢
            have h0 : 0 < u.size := by omega
            have h0I : (0 : Int) < (u.size : Int) := by omega
            have h1I : (1 : Int) ≤ (u.size : Int) := by omega
            obtain ⟨y, hy⟩ : ∃ y, u[0]'h0 = y := ⟨_, rfl⟩
            have hyb : y.toNat = byt (x.extract 2 x.size) i := by
              rw [← hb0, ← hy]; unfold byt; rw [get_is u 0 h0]
            rw [← hyb] at HUT HI2
            have k1 : ((y.toNat : Int) == 32) = decide (y = 32) := u8_eqb y 32
            have k2 : ((y.toNat : Int) == 9) = decide (y = 9) := u8_eqb y 9
            clear hb0 hyb hu
            by_cases y1 : y = 32
            · rw [decide_eq_true y1] at k1
              have HI3 := Lib.hid (HI2.out (by rw [y1]; rfl))
              clear k2 y1 HUT HI2
              go_wp2_with fail
              go_roundg (gk - 1)
              case measure => omega
              case rel => exact ⟨i + 1, by omega, congrArg Value.string (by rw [← hrz, ← hz]; exact htl.out), HI3, rfl⟩
            by_cases y2 : y = 9
            · rw [decide_eq_false y1] at k1
              rw [decide_eq_true y2] at k2
              have HI3 := Lib.hid (HI2.out (by rw [y2]; rfl))
              clear y1 y2 HUT HI2
              go_wp2_with fail
              go_roundg (gk - 1)
              case measure => omega
              case rel => exact ⟨i + 1, by omega, congrArg Value.string (by rw [← hrz, ← hz]; exact htl.out), HI3, rfl⟩
            have HUT := Lib.hid (HUT.out (decide_eq_false (by
              rintro (h | h)
              · exact y1 (UInt8.toNat_inj.1 h)
              · exact y2 (UInt8.toNat_inj.1 h))))
            rw [decide_eq_false y1] at k1
            rw [decide_eq_false y2] at k2
            clear y1 y2 HI2 htl
            go_wp2_with fail
            rw [HUT.out]
            go_wp2_with fail
            refine (HD2.out _).mono ?_
            rintro r w5 ⟨rfl, rfl⟩
            cases db
            case false =>
              have Hf := Lib.hid (hf.trans (by rw [if_neg (fun h => Bool.noConfusion h.1), Option.toList_none, List.append_nil]))
              go_wp2_with fail
              go_roundg (gko - 1)
              case measure => omega
              case rel => exact ⟨kk + 1, P, ⟨#[32]⟩, true, by omega, by go_num, rfl, rfl, HFB2, HO4, by omega, HPS, (by decide), HCG2, Hf, HB4⟩
            have HSP2 := Lib.hid (fun w1 => HSP.out w1)
            by_cases hpl2 : (p : Int) < last
            case neg =>
              have Hf := Lib.hid (hf.trans (by rw [if_neg (fun h => hpl2 h.2), Option.toList_none, List.append_nil]))
              rw [decide_eq_false hpl2] at HSP2
              clear hpl2 hf
              go_wp2_with fail
              refine (HSP2.out _).mono ?_
              rintro r w6 ⟨rfl, rfl⟩
              go_wp2_with fail
              go_roundg (gko - 1)
              case measure => omega
              case rel => exact ⟨kk + 1, P, ⟨#[32]⟩, true, by omega, by go_num, rfl, rfl, HFB2, HO4, by omega, HPS, (by decide), HCG2, Hf, HB4⟩
            have Hf := Lib.hid (hf.trans (by rw [if_pos ⟨rfl, hpl2⟩, Option.toList_some]))
            rw [decide_eq_true hpl2] at HSP2
            have z1 : (⟨#[43]⟩ : ByteArray).size = 1 := rfl
            clear hf hpl2
            go_wp2_with fail
            refine (HSP2.out _).mono ?_
            rintro r w6 ⟨rfl, rfl⟩
            go_wp2_with (first | (at_builtin; go_must (refine wpList_append_gen eltS rfl (.tmp 80) (.tmp 83) rfl rfl w.heap.size _ P rfl (gen_own_below HO4.out ((Below.refl _ _).alloc (Nat.le_refl _) _)) _ [⟨#[43]⟩ ++ d] (LAt.block rfl rfl (heap_alloc_new _ _)) rfl (by simp only [List.length_cons, List.length_nil]; omega) (by unfold maxLen; simp only [List.length_cons, List.length_nil]; omega) (by have := HB4.out.size; simp; omega) ?_); intro va wa hoa hga))
            have hBb := (HB4.out.alloc HB4.out.size (.cells #[.string (⟨#[43]⟩ ++ d)] 9)).grown hga (by have := HB4.out.size; simp at this ⊢; omega) (fun k hk => (HO4.out.lt k hk).1)
            have HBb := Lib.hid hBb
            have Hoa := Lib.hid hoa
            have HS2 := Lib.hid (show ∀ x ∈ P ++ [⟨#[43]⟩ ++ d], x.size ≤ 1048577 from fun x hx => by
              rcases List.mem_append.1 hx with h | h
              · exact HPS.out x h
              · rw [List.mem_singleton.1 h, ByteArray.size_append, z1]; omega)
            clear hBb hoa hga
            go_wp2_with fail
            go_roundg (gko - 1)
            case measure => omega
            case rel => exact ⟨kk + 1, P ++ [⟨#[43]⟩ ++ d], ⟨#[32]⟩, true, by omega, by go_num, rfl, rfl, HFB2, Hoa, by simp; omega, HS2, (by decide), HCG2, Hf, HBb⟩
        · rw [decide_eq_false hd] at hde
          have HCG2 := Lib.hid (show conGo (fl s first M) ⟨#[]⟩ = conGo (fl s first (M.drop (kk + 1))) wd from by rw [HF.out, if_neg hd])
          have HFB2 : Hid (true = decide (wd ≠ ⟨#[]⟩)) := Lib.hid (decide_eq_true hd).symm
          clear HF hd
          go_wp2_with fail
          clear e0 e1 e2
          obtain ⟨gko, rfl⟩ : ∃ gko : Nat, gko = gk := ⟨_, rfl⟩
          go_loopg [15] (x.size - 2) (fun g xv wz => ∃ i : Nat, i + g = x.size - 2 ∧ xv = .string ((x.extract 2 x.size).extract i (x.extract 2 x.size).size) ∧ Hid (∀ j, j < i → spN (byt (x.extract 2 x.size) j) = true) ∧ wz = w4)
          case atStart => exact ⟨0, by omega, by rw [ext_all], Lib.hid (fun j hj => by omega), rfl⟩
          case round =>
            obtain ⟨i, hig, rfl, HI, rfl⟩ := hrel
            have hrz : (x.extract 2 x.size).size = x.size - 2 := by rw [ByteArray.size_extract]; omega
            have hz : ((x.extract 2 x.size).extract i (x.extract 2 x.size).size).size = (x.extract 2 x.size).size - i := by rw [ByteArray.size_extract]; omega
            by_cases hi : i < (x.extract 2 x.size).size
            case neg =>
              have HUT := Lib.hid (show (x.extract 2 x.size).extract i (x.extract 2 x.size).size = tl from by
                rw [← HTL.out]
                exact (trimLB_of (by omega) HI.out (.inl (by omega))).symm)
              have hzz : ¬ (0 : Int) < (((x.extract 2 x.size).extract i (x.extract 2 x.size).size).size : Int) := by omega
              generalize (x.extract 2 x.size).extract i (x.extract 2 x.size).size = u at *
              go_wp2_with fail
              rw [HUT.out]
              go_wp2_with fail
              refine (HD2.out _).mono ?_
              rintro r w5 ⟨rfl, rfl⟩
              cases db
              case false =>
                have Hf := Lib.hid (hf.trans (by rw [if_neg (fun h => Bool.noConfusion h.1), Option.toList_none, List.append_nil]))
                go_wp2_with fail
                go_roundg (gko - 1)
                case measure => omega
                case rel => exact ⟨kk + 1, P, wd, true, by omega, by go_num, rfl, rfl, HFB2, HO4, by omega, HPS, hwdz, HCG2, Hf, HB4⟩
              have HSP2 := Lib.hid (fun w1 => HSP.out w1)
              by_cases hpl2 : (p : Int) < last
              case neg =>
                have Hf := Lib.hid (hf.trans (by rw [if_neg (fun h => hpl2 h.2), Option.toList_none, List.append_nil]))
                rw [decide_eq_false hpl2] at HSP2
                clear hpl2 hf
                go_wp2_with fail
                refine (HSP2.out _).mono ?_
                rintro r w6 ⟨rfl, rfl⟩
                go_wp2_with fail
                go_roundg (gko - 1)
                case measure => omega
                case rel => exact ⟨kk + 1, P, wd, true, by omega, by go_num, rfl, rfl, HFB2, HO4, by omega, HPS, hwdz, HCG2, Hf, HB4⟩
              have Hf := Lib.hid (hf.trans (by rw [if_pos ⟨rfl, hpl2⟩, Option.toList_some]))
              rw [decide_eq_true hpl2] at HSP2
              have z1 : (⟨#[43]⟩ : ByteArray).size = 1 := rfl
              clear hf hpl2
              go_wp2_with fail
              refine (HSP2.out _).mono ?_
              rintro r w6 ⟨rfl, rfl⟩
              go_wp2_with (first | (at_builtin; go_must (refine wpList_append_gen eltS rfl (.tmp 80) (.tmp 83) rfl rfl w.heap.size _ P rfl (gen_own_below HO4.out ((Below.refl _ _).alloc (Nat.le_refl _) _)) _ [⟨#[43]⟩ ++ d] (LAt.block rfl rfl (heap_alloc_new _ _)) rfl (by simp only [List.length_cons, List.length_nil]; omega) (by unfold maxLen; simp only [List.length_cons, List.length_nil]; omega) (by have := HB4.out.size; simp; omega) ?_); intro va wa hoa hga))
              have hBb := (HB4.out.alloc HB4.out.size (.cells #[.string (⟨#[43]⟩ ++ d)] 9)).grown hga (by have := HB4.out.size; simp at this ⊢; omega) (fun k hk => (HO4.out.lt k hk).1)
              have HBb := Lib.hid hBb
              have Hoa := Lib.hid hoa
              have HS2 := Lib.hid (show ∀ x ∈ P ++ [⟨#[43]⟩ ++ d], x.size ≤ 1048577 from fun x hx => by
                rcases List.mem_append.1 hx with h | h
                · exact HPS.out x h
                · rw [List.mem_singleton.1 h, ByteArray.size_append, z1]; omega)
              clear hBb hoa hga
              go_wp2_with fail
              go_roundg (gko - 1)
              case measure => omega
              case rel => exact ⟨kk + 1, P ++ [⟨#[43]⟩ ++ d], wd, true, by omega, by go_num, rfl, rfl, HFB2, Hoa, by simp; omega, HS2, hwdz, HCG2, Hf, HBb⟩
            have hb0 : byt ((x.extract 2 x.size).extract i (x.extract 2 x.size).size) 0 = byt (x.extract 2 x.size) i := by rw [byt_sub (Nat.le_refl _) (by omega), Nat.add_zero]
            have htl := Lib.hid (ext_tail (x.extract 2 x.size) i (x.extract 2 x.size).size (Nat.le_refl _) hi)
            have HUT := Lib.hid (fun (h : spN (byt (x.extract 2 x.size) i) = false) => show (x.extract 2 x.size).extract i (x.extract 2 x.size).size = tl from by
              rw [← HTL.out]
              exact (trimLB_of (by omega) HI.out (.inr h)).symm)
            have HI2 := Lib.hid (fun (h : spN (byt (x.extract 2 x.size) i) = true) => show ∀ j, j < i + 1 → spN (byt (x.extract 2 x.size) j) = true from fun j hj => by
              rcases Nat.lt_or_ge j i with h2 | h2
              · exact HI.out j h2
              · rw [show j = i by omega]; exact h)
            obtain ⟨u, hu⟩ : ∃ u, (x.extract 2 x.size).extract i (x.extract 2 x.size).size = u := ⟨_, rfl⟩
            rw [hu] at hz hb0 htl HUT ⊢
            have h0 : 0 < u.size := by omega
            have h0I : (0 : Int) < (u.size : Int) := by omega
            have h1I : (1 : Int) ≤ (u.size : Int) := by omega
            obtain ⟨y, hy⟩ : ∃ y, u[0]'h0 = y := ⟨_, rfl⟩
            have hyb : y.toNat = byt (x.extract 2 x.size) i := by
              rw [← hb0, ← hy]; unfold byt; rw [get_is u 0 h0]
            rw [← hyb] at HUT HI2
            have k1 : ((y.toNat : Int) == 32) = decide (y = 32) := u8_eqb y 32
            have k2 : ((y.toNat : Int) == 9) = decide (y = 9) := u8_eqb y 9
            clear hb0 hyb hu
            by_cases y1 : y = 32
            · rw [decide_eq_true y1] at k1
              have HI3 := Lib.hid (HI2.out (by rw [y1]; rfl))
              clear k2 y1 HUT HI2
              go_wp2_with fail
              go_roundg (gk - 1)
              case measure => omega
              case rel => exact ⟨i + 1, by omega, congrArg Value.string (by rw [← hrz, ← hz]; exact htl.out), HI3, rfl⟩
            by_cases y2 : y = 9
            · rw [decide_eq_false y1] at k1
              rw [decide_eq_true y2] at k2
              have HI3 := Lib.hid (HI2.out (by rw [y2]; rfl))
              clear y1 y2 HUT HI2
              go_wp2_with fail
              go_roundg (gk - 1)
              case measure => omega
              case rel => exact ⟨i + 1, by omega, congrArg Value.string (by rw [← hrz, ← hz]; exact htl.out), HI3, rfl⟩
            have HUT := Lib.hid (HUT.out (decide_eq_false (by
              rintro (h | h)
              · exact y1 (UInt8.toNat_inj.1 h)
              · exact y2 (UInt8.toNat_inj.1 h))))
            rw [decide_eq_false y1] at k1
            rw [decide_eq_false y2] at k2
            clear y1 y2 HI2 htl
            go_wp2_with fail
            rw [HUT.out]
            go_wp2_with fail
            refine (HD2.out _).mono ?_
            rintro r w5 ⟨rfl, rfl⟩
            cases db
            case false =>
              have Hf := Lib.hid (hf.trans (by rw [if_neg (fun h => Bool.noConfusion h.1), Option.toList_none, List.append_nil]))
              go_wp2_with fail
              go_roundg (gko - 1)
              case measure => omega
              case rel => exact ⟨kk + 1, P, wd, true, by omega, by go_num, rfl, rfl, HFB2, HO4, by omega, HPS, hwdz, HCG2, Hf, HB4⟩
            have HSP2 := Lib.hid (fun w1 => HSP.out w1)
            by_cases hpl2 : (p : Int) < last
            case neg =>
              have Hf := Lib.hid (hf.trans (by rw [if_neg (fun h => hpl2 h.2), Option.toList_none, List.append_nil]))
              rw [decide_eq_false hpl2] at HSP2
              clear hpl2 hf
              go_wp2_with fail
              refine (HSP2.out _).mono ?_
              rintro r w6 ⟨rfl, rfl⟩
              go_wp2_with fail
              go_roundg (gko - 1)
              case measure => omega
              case rel => exact ⟨kk + 1, P, wd, true, by omega, by go_num, rfl, rfl, HFB2, HO4, by omega, HPS, hwdz, HCG2, Hf, HB4⟩
            have Hf := Lib.hid (hf.trans (by rw [if_pos ⟨rfl, hpl2⟩, Option.toList_some]))
            rw [decide_eq_true hpl2] at HSP2
            have z1 : (⟨#[43]⟩ : ByteArray).size = 1 := rfl
            clear hf hpl2
            go_wp2_with fail
            refine (HSP2.out _).mono ?_
            rintro r w6 ⟨rfl, rfl⟩
            go_wp2_with (first | (at_builtin; go_must (refine wpList_append_gen eltS rfl (.tmp 80) (.tmp 83) rfl rfl w.heap.size _ P rfl (gen_own_below HO4.out ((Below.refl _ _).alloc (Nat.le_refl _) _)) _ [⟨#[43]⟩ ++ d] (LAt.block rfl rfl (heap_alloc_new _ _)) rfl (by simp only [List.length_cons, List.length_nil]; omega) (by unfold maxLen; simp only [List.length_cons, List.length_nil]; omega) (by have := HB4.out.size; simp; omega) ?_); intro va wa hoa hga))
            have hBb := (HB4.out.alloc HB4.out.size (.cells #[.string (⟨#[43]⟩ ++ d)] 9)).grown hga (by have := HB4.out.size; simp at this ⊢; omega) (fun k hk => (HO4.out.lt k hk).1)
            have HBb := Lib.hid hBb
            have Hoa := Lib.hid hoa
            have HS2 := Lib.hid (show ∀ x ∈ P ++ [⟨#[43]⟩ ++ d], x.size ≤ 1048577 from fun x hx => by
              rcases List.mem_append.1 hx with h | h
              · exact HPS.out x h
              · rw [List.mem_singleton.1 h, ByteArray.size_append, z1]; omega)
            clear hBb hoa hga
            go_wp2_with fail
            go_roundg (gko - 1)
            case measure => omega
            case rel => exact ⟨kk + 1, P ++ [⟨#[43]⟩ ++ d], wd, true, by omega, by go_num, rfl, rfl, HFB2, Hoa, by simp; omega, HS2, hwdz, HCG2, Hf, HBb⟩
end Go.Proofs.YtejogobhnbjpdaaGreatDoor
