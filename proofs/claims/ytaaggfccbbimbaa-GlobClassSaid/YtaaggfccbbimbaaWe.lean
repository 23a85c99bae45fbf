/- Walks: the pattern is read. -/
import Derived.Test.YtaaggfccbbimbaaWd
namespace Go.Proofs.Ytaaggfccbbimbaa
set_option linter.unusedVariables false
set_option linter.unusedSimpArgs false
open Go.ChangeShapes Go.WideShapes Go.ChangeAt Go.RowKit

/-- A piece as it lies in a row: what it is, and where its ranges lie. -/
def flatP (l : List (Pc × Value)) : List Value := l.flatMap fun x => [.bool x.1.many, .bool x.1.neg, x.2]
theorem flatP_app (l : List (Pc × Value)) (x : Pc × Value) : flatP (l ++ [x]) = flatP l ++ [.bool x.1.many, .bool x.1.neg, x.2] := by simp [flatP]
def Held (base : Nat) (row : Option Nat) (rb : Nat) (l : List (Pc × Value)) (w : World) : Prop :=
  ∀ x ∈ l, (∃ p n c, x.2 = .slice p n c) ∧ w.ownsRow base 50 2 x.2 x.1.spans.length (flatS x.1.spans) ∧ x.2.ownBlock ≠ some rb ∧ (x.2.ownBlock = none ∨ x.2.ownBlock ≠ row)
/-- The pieces in memory: a row, and the ranges of each. -/
def Pieces (w : World) (base : Nat) (v : Value) (ps : List Pc) : Prop :=
  ∃ l : List (Pc × Value), l.map Prod.fst = ps ∧ w.ownsRow base 41 3 v ps.length (flatP l) ∧ ∀ x ∈ l, (∃ p n c, x.2 = .slice p n c) ∧ w.ownsRow base 50 2 x.2 x.1.spans.length (flatS x.1.spans)
def ParseEnd (r : Option (List Pc)) (w : World) (e : Ending) (w' : World) : Prop :=
  ∃ v, e = .returned (.tuple #[v, .bool r.isSome]) ∧ (∃ p n c, v = .slice p n c) ∧ (∀ ps, r = some ps → Pieces w' w.heap.size v ps) ∧ Below w.heap.size w w'
theorem grownBelow {w0 w w' : World} {rb : Nat} (h : Below w0.heap.size w0 w) (hg : w.grownBy w' (some rb)) (hr : w0.heap.size ≤ rb) : Below w0.heap.size w0 w' :=
  h.grown hg h.size (fun k e => by cases e; exact hr)
theorem held_step {base rb g3 n cap3 : Nat} {wr w2 w3 : World} {X Y : Obj} {l : List (Pc × Value)} {v sv : Value} {p : Pc} {xs : List Value} {k : Nat} (hl : Held base v.ownBlock rb l wr) (hv : wr.ownsRow base 41 3 v k xs) (hrb : rb < wr.heap.size) (hb : base ≤ wr.heap.size)
    (h2 : wr.grownBy w2 (some rb)) (hs : ∃ q m c, sv = .slice q m c) (hsv : w2.ownsRow wr.heap.size 50 2 sv p.spans.length (flatS p.spans)) (h3 : ((w2.alloc X).alloc Y).grownBy w3 v.ownBlock)
    (hat : v.ownBlock = some g3 ∨ g3 = w2.heap.size + 2) : Held base (Value.slice (some ⟨g3, 0, none⟩) n cap3).ownBlock rb (l ++ [(p, sv)]) w3 := by
  have hvl := hv.lt
  have h2s := h2.size
  have eg : (Value.slice (some ⟨g3, 0, none⟩) n cap3).ownBlock = some g3 := rfl
  rw [eg]
  intro x hx
  rcases List.mem_append.1 hx with hx | hx
  · obtain ⟨a1, a2, a3, a4⟩ := hl x hx
    have b2 := a2.kept h2 (.inr a3)
    have hlt := b2.lt
    refine ⟨a1, ((b2.alloc X).alloc Y).kept h3 a4, a3, ?_⟩
    rcases hat with h | h
    · rw [← h]; exact a4
    · right; intro e; have := (hlt _ e).2; omega
  · rw [List.mem_singleton.1 hx]
    have hlt := hsv.lt
    have hne : sv.ownBlock ≠ v.ownBlock ∨ v.ownBlock = none := by
      cases hb : v.ownBlock with
      | none => right; rfl
      | some q => left; intro e; have h1 := (hlt _ e).1; have h2 := (hvl _ hb).2; omega
    have hk : sv.ownBlock = none ∨ sv.ownBlock ≠ v.ownBlock := by
      rcases hne with h | h
      · exact .inr h
      · rw [h]; cases hb : sv.ownBlock with
        | none => left; rfl
        | some q => right; simp
    refine ⟨hs, (((hsv.alloc X).alloc Y).kept h3 hk).mono hb, ?_, ?_⟩
    · intro e; have := (hlt _ e).1; omega
    · rcases hat with h | h
      · rw [← h]; exact hk
      · right; intro e; have := (hlt _ e).2; omega
theorem parseG_cons (n : Nat) (x : UInt8) (l : List UInt8) : parseG (n + 1) (x :: l) = match pieceP (x :: l) with | (none, _) => none | (some p, r) => (parseG n r).map (p :: ·) := rfl
theorem parseG_nil (n : Nat) : parseG n [] = some [] := by cases n <;> rfl
theorem map_two (a : Option (List Pc)) (l : List Pc) (p : Pc) : (a.map (p :: ·)).map (l ++ ·) = a.map ((l ++ [p]) ++ ·) := by cases a <;> simp
set_option maxHeartbeats 1000000 in
theorem parse_any (s : List UInt8) (w : World) (hl : s.length ≤ 1048576) : Calls Try.prog 10 #[.string (mkB s)] w (ParseEnd (parseG s.length s) w) := by
  obtain ⟨i0, hi, hz0, hz1, hz2⟩ := info_parts Try.info41
  have hR0 : Rd w.heap.size s (w.alloc (.cells #[.string (mkB s)] 38)) := heap_alloc_new w _
  generalize hP : parseG s.length s = P at *
  have HR0 := Lib.hid hR0
  have HP := Lib.hid hP
  generalize hq : mkB s = q at *
  have Hq := Lib.hid hq
  clear hR0 hP hq
  go_enter Try.func10, Try.ntmps10
  go_wp2_with fail
  go_loopg [5] s.length (fun g v wr => ∃ (l : List (Pc × Value)) (l' : List UInt8), P = (parseG g l').map (l.map Prod.fst ++ ·) ∧ l'.length ≤ g ∧ l.length + l'.length ≤ 1048576 ∧ Rd w.heap.size l' wr ∧ wr.ownsRow w.heap.size 41 3 v l.length (flatP l) ∧ v.ownBlock ≠ some w.heap.size ∧ Held w.heap.size v.ownBlock w.heap.size l wr ∧ Below w.heap.size w wr)
  case atStart => exact ⟨[], s, by rw [← HP.out]; cases parseG s.length s <;> simp, Nat.le_refl _, by simpa using hl, HR0.out, World.ownsRow_nil _ _ _ _, by simp [Value.ownBlock], (fun x hx => by cases hx), (Below.refl _ _).alloc (Nat.le_refl _) _⟩
  case round =>
    obtain ⟨l, l', hPl, hlg, hal, hRd, hown, hnb, hheld, hB⟩ := hrel
    obtain ⟨pv, cv, rfl, hnc, hcm, hsome⟩ := own_shape hown
    have hwz : w.heap.size < wr.heap.size := lt_of_block hRd
    have hBs := hB.size
    have Hown := Lib.hid hown
    have Hnb := Lib.hid hnb
    have Hheld := Lib.hid hheld
    cases l' with
    | nil =>
      rw [parseG_nil] at hPl
      have HPl := Lib.hid hPl
      have hc := hRd.cells.1
      rw [show mkB [] = ⟨#[]⟩ from rfl] at hc
      clear hPl hRd hown hnb hheld hsome
      go_wp2_with fail
      go_ret2
      rw [HPl.out]
      refine ⟨_, rfl, ⟨_, _, _, rfl⟩, ?_, hB⟩
      intro ps hps
      simp at hps
      subst hps
      refine ⟨l, rfl, by simpa using Hown.out, fun x hx => ⟨(Hheld.out x hx).1, (Hheld.out x hx).2.1⟩⟩
    | cons x t =>
      obtain ⟨m, rfl⟩ : ∃ m, gk = m + 1 := ⟨gk - 1, by simp at hlg; omega⟩
      have hpc := parseG_cons m x t
      have hc := hRd.cells.1
      have HPC := Lib.hid (piece_any w.heap.size (x :: t) wr hRd (by simp at hal ⊢; omega))
      have hpl := pieceP_len (x :: t)
      have hss : ∀ p, (pieceP (x :: t)).1 = some p → (pieceP (x :: t)).2.length < (x :: t).length := fun p h => pieceP_some (p := p) (by rw [← h])
      have hne : (mkB (x :: t)).toList ≠ [] := by rw [Lib.toList_data, mkB_toList]; simp
      have hne2 : (mkB (x :: t)).toList.isEmpty = false := by rw [Lib.toList_data, mkB_toList]; rfl
      generalize mkB (x :: t) = qq at *
      rcases hpp : pieceP (x :: t) with ⟨o, r⟩
      rw [hpp] at HPC hpc hss
      dsimp only at hpc hss
      have hlt : (x :: t).length = t.length + 1 := rfl
      rw [hlt] at hlg hal hss
      cases o with
      | none =>
        rw [hpc] at hPl
        have HPl := Lib.hid hPl
        clear hPl hRd hown hnb hheld hsome hpp hpc hss hpl hlt
        go_wp2_with fail
        refine HPC.out.mono ?_
        rintro e w2 ⟨m1, n1, sv, rfl, ⟨ps, ls, cs, rfl⟩, hok, hrd, hG2⟩
        have hB2 := grownBelow hB hG2 (Nat.le_refl _)
        clear hok hrd hG2
        go_wp2_with fail
        go_ret2
        rw [HPl.out]
        exact ⟨_, rfl, ⟨_, _, _, rfl⟩, by simp, hB2.alloc (by have := hB2.size; omega) _⟩
      | some p =>
        have hrl := hss p rfl
        rw [hpc, map_two] at hPl
        have HPl := Lib.hid hPl
        have Hfl := fun sv => Lib.hid (flatP_app l (p, sv))
        clear hPl hRd hown hnb hheld hsome hpp hpc hss hpl hlt
        go_wp2_with fail
        refine HPC.out.mono ?_
        rintro e w2 ⟨m1, n1, sv, rfl, ⟨ps, ls, cs, rfl⟩, hok, hrd, hG2⟩
        obtain ⟨rfl, rfl, hsv⟩ := hok p rfl
        have hR2 := hrd rfl
        have HG2 := Lib.hid hG2
        have hown2 := Hown.out.kept hG2 (.inr Hnb.out)
        have hs2 := hG2.size
        have HR2 := Lib.hid hR2
        have Hsv := Lib.hid hsv
        have Hown2 := Lib.hid hown2
        have HB2 := Lib.hid (grownBelow hB hG2 (Nat.le_refl _))
        clear hok hrd hG2 hown2 hR2 hsv
        go_wp2_with (at_builtin; go_must (refine wpList_append_lies _ rfl (.tmp 23) (.tmp 25) 32 rfl w.heap.size 41 i0 (.agg #[.bool false, .bool false, .slice none 0 0]) 3 32 Try.underlying32 hi hz0 hz1 hz2 rfl (by decide) (.slice pv l.length cv) l.length (flatP l) rfl ((Hown2.out.alloc _).alloc _) ⟨w2.heap.size + 1, 0, none⟩ 1 1 [.bool p.many, .bool p.neg, .slice ps ls cs] rfl rfl (World.news_of_block (heap_new2 _ _ _)) (by intro u hu; simp at hu; rcases hu with rfl | rfl | rfl <;> rfl) (by decide) (by unfold maxLen; omega) (by omega) (by simp; omega) (w2.heap.size + 2) (by simp) ?_; intro g3 cap3 w3 hown3 hgrow3 hat3 hlt3))
        have hr3 : Rd w.heap.size r w3 := grown_cells (alloc_keep (alloc_keep HR2.out)) hgrow3 (fun e => Hnb.out e.symm)
        have hheld3 := held_step (n := l.length + 1) (cap3 := cap3) (p := p) (sv := .slice ps ls cs) Hheld.out Hown.out hwz hBs HG2.out ⟨_, _, _, rfl⟩ Hsv.out hgrow3 hat3
        have hB3 := ((HB2.out.alloc (by have := HB2.out.size; omega) _).alloc (by simp; have := HB2.out.size; omega) _).grown hgrow3 (by simp; have := HB2.out.size; omega) (fun k hk => (Hown2.out.lt k hk).1)
        have hnb3 : (Value.slice (some ⟨g3, 0, none⟩) (l.length + 1) cap3).ownBlock ≠ some w.heap.size := by
          intro e
          have e2 : g3 = w.heap.size := by simpa [Value.ownBlock] using e
          rcases hat3 with h | h
          · exact Hnb.out (h.trans (by rw [e2]))
          · omega
        go_roundg m
        case measure => omega
        case rel => exact ⟨l ++ [(p, .slice ps ls cs)], r, by rw [HPl.out]; simp, by omega, by simp; omega, hr3, by rw [(Hfl _).out]; simpa using hown3, hnb3, hheld3, hB3⟩
end Go.Proofs.Ytaaggfccbbimbaa
