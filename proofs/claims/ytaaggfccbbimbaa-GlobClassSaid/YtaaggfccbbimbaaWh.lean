/- Walks: a name is matched. -/
import Derived.Test.YtaaggfccbbimbaaWg
import Derived.Deep.OwnRows
namespace Go.Proofs.Ytaaggfccbbimbaa
set_option linter.unusedVariables false
set_option linter.unusedSimpArgs false
open Go.ChangeShapes Go.WideShapes Go.ChangeAt Go.RowKit

def PcsR (lim : Nat) (w : World) (v : Value) (ps : List Pc) : Prop :=
  ∃ p cap, v = .slice p ps.length cap ∧ ps.length ≤ cap ∧ cap ≤ 9223372036854775807 ∧
    (0 < ps.length → ∃ g, p = some ⟨g, 0, none⟩ ∧ g < lim ∧ ∀ i (hi : i < ps.length), ∃ sv, w.cell? ⟨g, i * 3, none⟩ = some (.bool ps[i].many) ∧ w.cell? ⟨g, i * 3 + 1, none⟩ = some (.bool ps[i].neg) ∧ w.cell? ⟨g, i * 3 + 2, none⟩ = some sv ∧ Spans lim w sv ps[i].spans)
theorem flatP_get : ∀ (l : List (Pc × Value)) (i : Nat) (hi : i < l.length), (flatP l)[i * 3]? = some (.bool l[i].1.many) ∧ (flatP l)[i * 3 + 1]? = some (.bool l[i].1.neg) ∧ (flatP l)[i * 3 + 2]? = some l[i].2 := by
  intro l
  induction l with
  | nil => intro i h; simp at h
  | cons x r ih =>
    intro i h
    have e : flatP (x :: r) = .bool x.1.many :: .bool x.1.neg :: x.2 :: flatP r := rfl
    rw [e]
    cases i with
    | zero => exact ⟨rfl, rfl, rfl⟩
    | succ i =>
      have := ih i (by simp at h; omega)
      rw [show (i + 1) * 3 = i * 3 + 1 + 1 + 1 by omega]
      simpa using this
theorem PcsR.of {w : World} {base : Nat} {v : Value} {ps : List Pc} (h : Pieces w base v ps) : PcsR w.heap.size w v ps := by
  obtain ⟨l, rfl, hown, hs⟩ := h
  obtain ⟨p, cap, rfl, h1, h2, h3⟩ := own_shape hown
  refine ⟨p, cap, rfl, h1, h2, fun h0 => ?_⟩
  obtain ⟨g, rfl, hg⟩ := h3 h0
  refine ⟨g, rfl, (hown.lt g rfl).2, fun i hi => ?_⟩
  have hil : i < l.length := by simpa using hi
  have hc := hown.cells (g := g) rfl
  have ha : ∀ j, (⟨g, 0, none⟩ : Addr).add j = ⟨g, j, none⟩ := fun j => by unfold Addr.add; split <;> simp_all
  obtain ⟨f0, f1, f2⟩ := flatP_get l i hil
  have c0 := hc _ _ f0
  have c1 := hc _ _ f1
  have c2 := hc _ _ f2
  rw [ha] at c0 c1 c2
  refine ⟨l[i].2, by simpa using c0, by simpa using c1, c2, ?_⟩
  have := Spans.of (hs l[i] (List.getElem_mem hil)).2
  simpa using this
theorem PcsR.below {lim : Nat} {w w' : World} {v : Value} {ps : List Pc} (h : PcsR lim w v ps) (hB : Below lim w w') : PcsR lim w' v ps := by
  obtain ⟨p, cap, e, h1, h2, h3⟩ := h
  refine ⟨p, cap, e, h1, h2, fun h0 => ?_⟩
  obtain ⟨g, e2, hg, hc⟩ := h3 h0
  refine ⟨g, e2, hg, fun i hi => ?_⟩
  obtain ⟨sv, c0, c1, c2, hs⟩ := hc i hi
  exact ⟨sv, by rw [hB.cell (p := ⟨g, i * 3, none⟩) hg]; exact c0, by rw [hB.cell (p := ⟨g, i * 3 + 1, none⟩) hg]; exact c1, by rw [hB.cell (p := ⟨g, i * 3 + 2, none⟩) hg]; exact c2, hs.below hB⟩
theorem Try.info4 : (Try.prog.info? 4).map (fun i => (i.zero, i.size, i.bytes)) = some (some (.bool false), 1, 1) := by kernel_rfl
theorem foldE_take (name : List UInt8) (ps : List Pc) (k : Nat) (h : k < ps.length) : allE name (ps.take (k + 1)) = nextE ps[k] name (allE name (ps.take k)) := by
  unfold allE
  rw [List.take_succ_eq_append_getElem h, List.foldl_append]; rfl
theorem ends_made (w : World) (n : Nat) : (w.alloc (Obj.cells (madeCells #[Value.bool false] (n + 1)) 4)).cell? ⟨w.heap.size, 0, none⟩ = some (.bool false) := by
  rw [block_cell (heap_alloc_new w _), ← Array.getElem?_toList, toList_madeCells_one]; rfl
theorem ends_begin (w : World) (n : Nat) : EndsAt (w.alloc (Obj.cells ((madeCells #[Value.bool false] (n + 1)).setIfInBounds 0 (Value.bool true)) 4)) w.heap.size (true :: List.replicate n false) := by
  unfold EndsAt
  rw [heap_alloc_new w _]
  congr 2
  apply Array.toList_inj.1
  rw [Array.toList_setIfInBounds, toList_madeCells_one]
  simp [List.replicate_succ]
set_option maxHeartbeats 1000000 in
theorem match_any (v : Value) (ps : List Pc) (name : List UInt8) (w : World) (h : PcsR w.heap.size w v ps) (hn : name.length ≤ 1048576) (hl : ps.length ≤ 1048576) : Calls Try.prog 11 #[v, .string (mkB name)] w (HasEnd (matB ps name) w) := by
  have hsz : (mkB name).size = name.length := mkB_size _
  have H := Lib.hid h
  obtain ⟨p, cap, rfl, h1, h2, h3⟩ := h
  have HN := Lib.hid (fun (w1 : World) (k : Nat) (hk : k < ps.length) (sv : Value) (eb : Nat) (h1 : Spans w.heap.size w1 sv ps[k].spans) (h2 : w.heap.size ≤ eb) (h3 : EndsAt w1 eb (allE name (ps.take k))) => next_any ps[k] sv w.heap.size eb (name.length + 1) name (allE name (ps.take k)) w1 (allE_len _ _) h1 h2 h3 hn (Nat.le_refl _) (by omega))
  have Hfin := Lib.hid (show matB ps name = (allE name (ps.take ps.length)).getD name.length false by rw [List.take_length]; rfl)
  have Hlen := Lib.hid (fun k => allE_len name (ps.take k))
  have H00 := Lib.hid (show allE name (ps.take 0) = true :: List.replicate name.length false by simp [allE])
  have hmk := fun w1 => run_make_row' (P := Try.prog) 44 4 (.bool false) 1 Try.underlying44 (by kernel_rfl) rfl .i64 .i64 (name.length + 1) (by omega) (by omega) w1
  generalize hq : mkB name = q at *
  clear h3 hq
  generalize matB ps name = R at *
  obtain ⟨n, hnn⟩ : ∃ n, n = name.length := ⟨_, rfl⟩
  rw [← hnn] at hn hsz hmk Hfin HN H00
  have Hn := Lib.hid hnn
  clear hnn
  rw [show ((n + 1 : Nat) : Int) = (n : Int) + 1 by omega] at hmk
  have hwr : IntKind.i64.wrap ((n : Int) + 1) = (n : Int) + 1 := IntWalk.i64_in _ (by omega)
  have hm0 := ends_made w n
  go_enter Try.func11, Try.ntmps11
  go_wp2_with fail
  go_loopw [16] (fun i wr => ∃ k : Nat, k ≤ ps.length ∧ i = .int .i64 k ∧ EndsAt wr w.heap.size (allE name (ps.take k)) ∧ Below w.heap.size w wr) (fun i _ => ps.length - (intOf i).toNat)
  case atStart => exact ⟨0, Nat.zero_le _, rfl, by rw [H00.out]; exact ends_begin w n, (Below.refl _ _).alloc (Nat.le_refl _) _⟩
  case round =>
    obtain ⟨k, hk, rfl, hEA, hB⟩ := hrel
    have hew := lt_of_block hEA
    clear hm0 hmk
    by_cases hlt : k < ps.length
    · obtain ⟨p1, cap1, e1, _, _, h3⟩ := H.out.below hB
      cases e1
      obtain ⟨g, rfl, hg, hc⟩ := h3 (by omega)
      obtain ⟨sv, c0, c1, c2, hsp⟩ := hc k hlt
      have hgw : g < wr.heap.size := by omega
      have HN1 := Lib.hid (HN.out (wr.alloc (.cells #[.bool ps[k].many, .bool ps[k].neg, sv] 41)) k hlt sv w.heap.size (hsp.below ((Below.refl _ _).alloc (by omega) _)) (Nat.le_refl _) (by unfold EndsAt; rw [Below.heap_alloc _ _ _ hew]; exact hEA))
      have Hnx := Lib.hid (foldE_take name ps k hlt)
      obtain ⟨q1, cq, rfl, _⟩ := hsp
      have HB := Lib.hid hB
      have hBw := hB.size
      clear h3 hc hB hEA
      rw [← Hnx.out] at HN1
      clear Hnx
      cases hm : ps[k].many
      all_goals
        rw [hm] at HN1 c0
        have HC := Lib.hid (by first | exact HN1.out.1 rfl | exact HN1.out.2 rfl)
        clear HN1 hm
        go_wp2_with fail
        refine HC.out.mono ?_
        rintro e w2 ⟨rfl, hE2, hB2⟩
        have hB3 := (HB.out.alloc hBw (.cells #[.bool _, .bool ps[k].neg, .slice q1 ps[k].spans.length cq] 41)).trans hB2
        have HE2 := Lib.hid hE2
        have HB3 := Lib.hid hB3
        clear hE2 hB3 hB2
        go_wp2_with fail
        exact ⟨⟨k + 1, by omega, by go_num, HE2.out, HB3.out⟩, by simp [intOf]; omega⟩
    · obtain rfl : k = ps.length := by omega
      have hE := hEA.cell n (by rw [Hlen.out]; have := Hn.out; omega)
      have hR := Hfin.out
      rw [← hR] at hE
      have HB := Lib.hid hB
      clear hEA hR hB
      go_wp2_with fail
      go_ret
      exact ⟨rfl, HB.out⟩
theorem parseG_size : ∀ (n : Nat) (l : List UInt8) (ps : List Pc), parseG n l = some ps → ps.length ≤ n := by
  intro n
  induction n with
  | zero => intro l ps h; cases l <;> simp [parseG] at h; subst h; simp
  | succ n ih =>
    intro l ps h
    cases l with
    | nil => rw [parseG_nil] at h; cases h; simp
    | cons x t =>
      rw [parseG_cons] at h
      split at h
      · cases h
      · rename_i p r e
        cases hr : parseG n r with
        | none => rw [hr] at h; cases h
        | some qs => rw [hr] at h; cases h; have := ih r qs hr; simp; omega
/-- What Match answers. -/
def globR (p s : List UInt8) : Bool × Int := match parseG p.length p with | none => (false, 4) | some ps => (matB ps s, 0)
def globB (p s : ByteArray) : Bool × Int := globR p.data.toList s.data.toList
def GlobEnd (r : Bool × Int) (w : World) (e : Ending) (w' : World) : Prop := e = .returned (.tuple #[.bool r.1, .int .i64 r.2]) ∧ Below w.heap.size w w'
theorem glob_any (p s : ByteArray) (w : World) (hp : p.size ≤ 1048576) (hs : s.size ≤ 1048576) : Calls Try.prog 9 #[.string p, .string s] w (GlobEnd (globB p s) w) := by
  have HP := Lib.hid (parse_any p.data.toList w (by rw [ba_len]; exact hp))
  rw [mkB_data] at HP
  have hg : globB p s = match parseG p.data.toList.length p.data.toList with | none => (false, 4) | some ps => (matB ps s.data.toList, 0) := rfl
  have hsz := parseG_size p.data.toList.length p.data.toList
  have HM := Lib.hid (fun (v : Value) (ps : List Pc) (w1 : World) (h : PcsR w1.heap.size w1 v ps) (hl : ps.length ≤ 1048576) => match_any v ps s.data.toList w1 h (by rw [ba_len]; exact hs) hl)
  rw [mkB_data] at HM
  generalize globB p s = R at *
  rw [ba_len] at hsz hg HP
  cases hpp : parseG p.size p.data.toList with
  | none =>
    rw [hpp] at HP hg
    have Hg := Lib.hid hg
    clear hg hsz hpp
    go_enter Try.func9, Try.ntmps9
    go_wp2_with fail
    refine HP.out.mono ?_
    rintro e w1 ⟨v, rfl, ⟨q, n, c, rfl⟩, _, hB⟩
    go_wp2_with fail
    go_ret2
    rw [Hg.out]
    exact ⟨rfl, hB⟩
  | some ps =>
    rw [hpp] at HP hg
    have Hg := Lib.hid hg
    have hps := hsz ps hpp
    clear hg hsz hpp
    go_enter Try.func9, Try.ntmps9
    go_wp2_with fail
    refine HP.out.mono ?_
    rintro e w1 ⟨v, rfl, ⟨q, n, c, rfl⟩, hv, hB⟩
    have HC := Lib.hid (HM.out _ ps w1 (PcsR.of (hv ps rfl)) (by omega))
    clear hv
    go_wp2_with fail
    refine HC.out.mono ?_
    rintro e w2 ⟨rfl, hB2⟩
    go_wp2_with fail
    go_ret2
    rw [Hg.out]
    exact ⟨rfl, hB.trans (hB2.mono hB.size)⟩
theorem alive_any (w : World) : Calls Try.prog 8 #[] w (LawEnd w) := by
  have e1 : globB ⟨#[97, 42, 46, 103, 111]⟩ ⟨#[97, 98, 46, 103, 111]⟩ = (true, 0) := by decide +kernel
  have e2 : globB ⟨#[97, 42, 46, 103, 111]⟩ ⟨#[97, 47, 98, 46, 103, 111]⟩ = (false, 0) := by decide +kernel
  have e3 : globB ⟨#[91, 94, 97, 45, 99, 93]⟩ ⟨#[100]⟩ = (true, 0) := by decide +kernel
  have H1 := Lib.hid (fun w1 => glob_any ⟨#[97, 42, 46, 103, 111]⟩ ⟨#[97, 98, 46, 103, 111]⟩ w1 (by decide) (by decide))
  have H2 := Lib.hid (fun w1 => glob_any ⟨#[97, 42, 46, 103, 111]⟩ ⟨#[97, 47, 98, 46, 103, 111]⟩ w1 (by decide) (by decide))
  have H3 := Lib.hid (fun w1 => glob_any ⟨#[91, 94, 97, 45, 99, 93]⟩ ⟨#[100]⟩ w1 (by decide) (by decide))
  rw [e1] at H1
  rw [e2] at H2
  rw [e3] at H3
  clear e1 e2 e3
  go_enter Try.func8, Try.ntmps8
  go_wp2_with fail
  refine (H1.out _).mono ?_
  rintro e w1 ⟨rfl, hB1⟩
  go_wp2_with fail
  refine (H2.out _).mono ?_
  rintro e w2 ⟨rfl, hB2⟩
  replace hB1 := hB1.trans (hB2.mono hB1.size)
  clear hB2
  go_wp2_with fail
  refine (H3.out _).mono ?_
  rintro e w3 ⟨rfl, hB2⟩
  replace hB1 := hB1.trans (hB2.mono hB1.size)
  clear hB2
  go_wp2_with fail
  go_ret
  exact ⟨rfl, hB1⟩
end Go.Proofs.Ytaaggfccbbimbaa
