/- Walks: the document's Parse; Walks: the document's Parse. -/
import Derived.Test.YtejogobhnbjpdaaGreatDoorV4
import Derived.Laws.ResultCell
import Derived.Test.YtejogobhnbjpdaaGreatDoorV3
import Derived.Test.YtejogobhnbjpdaaGreatDoorR2
namespace Go.Proofs.YtejogobhnbjpdaaGreatDoor
set_option linter.unusedVariables false
set_option linter.unusedSimpArgs false
open Go.ChangeShapes Go.WideShapes Go.ChangeAt Go.RowKit

theorem beg0 {L : List Tk} (h : tIs 1 wPackage (tk L 0) = false) : beginR L = (if (tk L 0).1 = 7 then 1 else 2, 0, []) := by
  have hc : clauseR L = (false, 0) := by unfold clauseR; rw [if_pos h]
  unfold beginR; rw [hc, if_pos rfl]
theorem beg1 {L : List Tk} (h : tIs 1 wPackage (tk L 0) = true) (h1 : (tk L 1).2.1 = ⟨#[95]⟩ ∨ tName (tk L 1) = false) : beginR L = (if (tk L 1).1 = 7 then 1 else 2, 1, []) := by
  have hc : clauseR L = (false, 1) := by
    unfold clauseR
    rw [if_neg (by rw [h]; decide)]
    by_cases hu : (tk L 1).2.1 = ⟨#[95]⟩
    · rw [if_pos hu]
    · rw [if_neg hu, if_pos (h1.resolve_left hu)]
  unfold beginR; rw [hc, if_pos rfl]
theorem beg2 {L : List Tk} (h : tIs 1 wPackage (tk L 0) = true) (h1 : (tk L 1).2.1 ≠ ⟨#[95]⟩) (h2 : tName (tk L 1) = true) (h3 : tSemi (tk L 2) = false) : beginR L = (if (tk L 2).1 = 7 then 1 else 2, 2, []) := by
  have hc : clauseR L = (false, 2) := by
    unfold clauseR
    rw [if_neg (by rw [h]; decide), if_neg h1, if_neg (by rw [h2]; decide), if_pos h3]
  unfold beginR; rw [hc, if_pos rfl]
theorem beg3 {L : List Tk} (h : tIs 1 wPackage (tk L 0) = true) (h1 : (tk L 1).2.1 ≠ ⟨#[95]⟩) (h2 : tName (tk L 1) = true) (h3 : tSemi (tk L 2) = true) (hl : 3 ≤ L.length) :
    beginR L = (if (tk L (3 + (declR (L.drop 3) 0 []).2.1)).1 = 7 then 1 else if (declR (L.drop 3) 0 []).1 = true then 0 else 3, 3 + (declR (L.drop 3) 0 []).2.1, (declR (L.drop 3) 0 []).2.2) := by
  have hc : clauseR L = (true, 3) := by
    unfold clauseR
    rw [if_neg (by rw [h]; decide), if_neg h1, if_neg (by rw [h2]; decide), if_neg (by rw [h3]; decide)]
  obtain ⟨d1, d2, d3⟩ := declR_three hl
  unfold beginR
  rw [hc, if_neg (by decide), d1, d2, d3]
  cases (declR (L.drop 3) 0 []).1
  · rw [if_pos rfl]; simp only [Bool.false_eq_true, if_false]
  · rw [if_neg (by decide)]; simp only [if_true]
theorem pret0 {F : Func} (hr : F.results = #[.cell 2 26, .tmp 3]) {R : Ending → World → Prop} {ac : Act} {w : World} {g : Nat} {cs : Array Value} {n : Value} (hg : w.heap[g]? = some (.cells cs 26 (0, 0))) (h6 : cs.size = 6)
    (hp : ac.tmps.getD 2 undef = .pointer (some ⟨g, 0, none⟩)) (hn : ac.tmps.getD 3 undef = n) (hd : ac.defers = []) (hR : R (.returned (.tuple #[.agg cs, n])) w) : bodyPost Tryz.prog F R .ret ac w := by
  refine bodyPost_ret ?_ hd hR
  rw [results_cell_tmp hr, hp, hn]
  simp only [asAddr, Sem.run_pure, Result.andThen_ok, run_loadVar_row w g 26 26 cs (0, 0) _ hg Tryz.underlying26 rfl (by rw [h6]; exact size26)]
theorem pret {F : Func} (hr : F.results = #[.cell 2 26, .tmp 3]) {R : Ending → World → Prop} {ac : Act} {w : World} {g : Nat} {a b c d e f p q r x y z n : Value} (hg : w.heap[g]? = some (.cells #[a, b, c, d, e, f] 26 (0, 0)))
    (hp : ac.tmps.getD 2 undef = .pointer (some ⟨g, 0, none⟩)) (hn : ac.tmps.getD 3 undef = n) (hd : ac.defers = []) (hR : R (.returned (.tuple #[.agg #[p, q, r, x, y, z], n])) (w.setRow g #[p, q, r, x, y, z])) :
    bodyPost Tryz.prog F R .ret ac ((((((w.setCell ⟨g, 0, none⟩ p).setCell ⟨g, 1, none⟩ q).setCell ⟨g, 2, none⟩ r).setCell ⟨g, 3, none⟩ x).setCell ⟨g, 4, none⟩ y).setCell ⟨g, 5, none⟩ z) := by
  rw [set6 w g _ _ _ _ _ _ p q r x y z _ _ hg]
  exact pret0 hr (setRow_heap _ _ _ _ _ _ hg) rfl hp hn hd hR
/-- What the document's Parse ends in. -/
def DocP (s : ByteArray) (w : World) (e : Ending) (w' : World) : Prop := ∃ v, e = .returned (.tuple #[v, .int .i64 (beginR (lexL s)).2.1]) ∧ HAt w' v (parseR s) ∧ Below w.heap.size w w'
theorem docp_wrong {s : ByteArray} {w w' : World} {f a n : Nat} (h0 : beginR (lexL s) = (f, n, (beginR (lexL s)).2.2)) (hf : f ≠ 0) (ha : (tk (lexL s) n).2.2 = a) (hB : Below w.heap.size w w') :
    DocP s w (.returned (.tuple #[.agg #[.string ⟨#[]⟩, .slice none 0 0, .string ⟨#[]⟩, .slice none 0 0, .int .i64 f, .int .i64 a], .int .i64 n])) w' := by
  refine ⟨_, by rw [h0], ?_, hB⟩
  have h1 : (beginR (lexL s)).1 = f := by rw [h0]
  have h2 : (beginR (lexL s)).2.1 = n := by rw [h0]
  rw [parse_wrong (by rw [h1]; exact hf), h1, h2, ha]
  exact fault_at f a
/-- A text that is ")" is a sign. -/
theorem thing_close {s : ByteArray} {q k e : Nat} (hq : q < s.size) (ht : thing s q = .tok k e) (hx : s.extract q e = ⟨#[41]⟩) : k = 5 := by
  have he := congrArg (fun z : ByteArray => z.data.toList[0]?) hx
  have hb : byt s q = 41 := by
    have h1 : (s.extract q e).size = 1 := by rw [hx]; rfl
    rw [ByteArray.size_extract] at h1
    have hqe : q < e ∧ e ≤ s.size ∨ True := .inr trivial
    have h2 := byt_of (s := s) (j := q) (b := 41) (by
      have h3 : (s.extract q e).data.toList[0]? = some 41 := by rw [hx]; rfl
      rw [Lib.extract_data, List.getElem?_take, List.getElem?_drop] at h3
      rw [if_pos (by omega)] at h3
      simpa using h3)
    exact h2.2.symm
  have hr : (runeAt s q).1 = 41 := (rune_byte hq 41 (by omega) (by omega)).2 hb
  have hc := thing_eq s q
  rw [ht, hr] at hc
  have hp1 : pre s q [47, 47] = false := by
    rw [Bool.eq_false_iff]; intro h
    have := ((pre2 s q 47 47 (Nat.le_of_lt hq)).1 h).2.1
    rw [hb] at this; exact absurd this (by decide)
  have hp2 : pre s q [47, 42] = false := by
    rw [Bool.eq_false_iff]; intro h
    have := ((pre2 s q 47 42 (Nat.le_of_lt hq)).1 h).2.1
    rw [hb] at this; exact absurd this (by decide)
  rw [hp1, hp2] at hc
  rw [if_neg (by decide), if_neg (by decide), if_neg (by decide), if_neg (by decide), if_neg (by decide), if_neg (by simp [digTest, digR]), if_neg (by decide), if_neg (by decide), if_neg (by decide), if_neg (by decide)] at hc
  split at hc
  · cases hc
  · injection hc
def AllC (l : List Tk) : Prop := ∀ t ∈ l, t.2.1 = ⟨#[41]⟩ → t.1 = 5
theorem snoc_c {l : List Tk} (h : AllC l) {x : Tk} (hx : x.2.1 = ⟨#[41]⟩ → x.1 = 5) : AllC (l ++ [x]) := fun u hu => by
  rcases List.mem_append.1 hu with h1 | h1
  · exact h u h1
  · rw [List.mem_singleton.1 h1]; exact hx
theorem ne41 : (⟨#[]⟩ : ByteArray) ≠ ⟨#[41]⟩ := by decide
theorem feed_c {l : List Tk} (h : AllC l) (q : Nat) : AllC (feedL l q) := by
  unfold feedL
  cases hl : l.getLast? with
  | none => exact h
  | some t =>
    show AllC (if endsB t = true then l ++ [(6, (⟨#[]⟩ : ByteArray), q)] else l)
    split
    · exact snoc_c h (fun e => absurd e ne41)
    · exact h
theorem lexT_c {s : ByteArray} : ∀ q l m, q ≤ s.size → AllC l → AllC (lexT s q l m).1 := by
  refine lex_ind s _ ?_ ?_ ?_
  · intro q l m h hq hl
    rw [lexT_out h]
    exact snoc_c (feed_c hl _) (fun e => absurd e ne41)
  · intro q l m f h ht hq hl
    rw [lexT_bad h ht]
    exact snoc_c hl (fun e => absurd e ne41)
  · intro q l m h hok ih hq hl
    rw [lexT_step h hok]
    have hen := ((thing_ends h).2 hok).2.1
    refine ih hen ?_
    cases ht : thing s q with
    | bad f => rw [ht] at hok; cases hok
    | lf => exact feed_c hl q
    | blank => exact hl
    | note e =>
      show AllC (if hasLF s q e = true then feedL l q else l)
      split
      · exact feed_c hl q
      · exact hl
    | tok k e => exact snoc_c hl (fun e2 => thing_close h ht e2)
theorem lexL_c (s : ByteArray) (i : Nat) : (tk (lexL s) i).2.1 = ⟨#[41]⟩ → (tk (lexL s) i).1 = 5 := fun h => by
  rcases Nat.lt_or_ge i (lexL s).length with hi | hi
  · exact lexT_c (s := s) _ _ _ (skN_le s) (fun _ h => by cases h) _ (List.mem_of_getElem? (tk_some hi)) h
  · have e : tk (lexL s) i = (0, ⟨#[]⟩, 0) := by unfold tk; rw [List.getD_eq_getElem?_getD, List.getElem?_eq_none hi]; rfl
    rw [e] at h
    exact absurd h ne41
end Go.Proofs.YtejogobhnbjpdaaGreatDoor
namespace Go.Proofs.YtejogobhnbjpdaaGreatDoor
set_option linter.unusedVariables false
set_option linter.unusedSimpArgs false
open Go.ChangeShapes Go.WideShapes Go.ChangeAt Go.RowKit

theorem EndT.semi2 {T : List Tk} (F : EndT T) {i : Nat} (h : i < T.length) (ht : tSemi (tk T i) = true) : i + 1 < T.length := F.semi h ht
set_option maxRecDepth 100000 in
set_option maxHeartbeats 4000000 in
theorem dparse_any (s : ByteArray) (w : World) (hs : s.size ≤ 1048576) : Calls Tryz.prog 7 #[.string s] w (DocP s w) := by
  have P := pre_of s hs
  have HPS := Lib.hid P
  have HWR := Lib.hid (fun f n a w' h0 hf ha hB => docp_wrong (s := s) (w := w) (w' := w') (f := f) (a := a) (n := n) h0 hf ha hB)
  have HLX := Lib.hid (fun w1 => refLex_any s w1 hs)
  have hpos := P.e.pos
  have htl := P.tl
  have HNm := Lib.hid (fun (h : 1 < (lexL s).length) (h2 : tName (tk (lexL s) 1) = true) => P.e.name h h2)
  have HB0 := Lib.hid (fun h => beg0 (L := lexL s) h)
  have HB1 := Lib.hid (fun h h1 => beg1 (L := lexL s) h h1)
  have HB2 := Lib.hid (fun h h1 h2 h3 => beg2 (L := lexL s) h h1 h2 h3)
  have HB3 := Lib.hid (fun h h1 h2 h3 h4 => beg3 (L := lexL s) h h1 h2 h3 h4)
  have HT0 := Lib.hid (tk_some hpos)
  have HI0 := Lib.hid (fun h => P.e.is (i := 0) (k := 1) (t := wPackage) hpos (by decide) (by decide) h)
  have HSm := Lib.hid (fun (h : 2 < (lexL s).length) (h2 : tSemi (tk (lexL s) 2) = true) => P.e.semi h h2)
  clear P
  go_enter Tryz.func7, Tryz.ntmps7
  have hn0 := heap_alloc_new w (.cells #[.string ⟨#[]⟩, .slice none 0 0, .string ⟨#[]⟩, .slice none 0 0, .int .i64 0, .int .i64 0] 26)
  have hb0 := (Below.refl w.heap.size w).alloc (Nat.le_refl _) (.cells #[.string ⟨#[]⟩, .slice none 0 0, .string ⟨#[]⟩, .slice none 0 0, .int .i64 0, .int .i64 0] 26)
  have Hn0 := Lib.hid hn0
  have Hb0 := Lib.hid hb0
  have Hlt := Lib.hid (lt_of_block hn0)
  clear hn0 hb0
  go_wp2_with fail
  generalize w.alloc (.cells #[.string ⟨#[]⟩, .slice none 0 0, .string ⟨#[]⟩, .slice none 0 0, .int .i64 0, .int .i64 0] 26) = w0 at *
  refine (HLX.out _).mono ?_
  rintro r w1 ⟨v, u, rfl, hv, hu, hB⟩
  obtain ⟨pl, cl, rfl, hpl⟩ := hv.shape
  obtain ⟨g1, o1, rfl⟩ := hpl hpos
  obtain ⟨pm, cm, rfl, hpm⟩ := hu.shape
  have hcl : (lexL s).length ≤ cl := by
    rcases hv.2 with ⟨p, cap', hv1, h0⟩ | ⟨b, off', cap', hv1, hb, h1, h2, h3⟩
    · rw [h0] at hpos; cases hpos
    · injection hv1 with _ _ hv3; omega
  have HV := Lib.hid hv
  have HU := Lib.hid hu
  have Hpm := Lib.hid hpm
  have HG := Lib.hid ((hB.block w.heap.size Hlt.out).trans Hn0.out)
  have HB := Lib.hid (Hb0.out.trans (hB.mono Hb0.out.size))
  clear hv hu hpl hpm hB Hb0 Hn0 Hlt
  obtain ⟨⟨k0, x0, p0⟩, ht0⟩ : ∃ t, tk (lexL s) 0 = t := ⟨_, rfl⟩
  obtain ⟨hg0, a0, a1, a2⟩ := lat_tk HV.out (by rw [HT0.out, ht0] : (lexL s)[0]? = some (k0, x0, p0))
  dsimp only at a0 a1 a2
  simp only [Nat.zero_mul, Nat.add_zero] at a0 a1 a2
  have q1 : ((k0 : Int) == 1) = decide (k0 = 1) := int_eqb k0 1
  have q2 : (x0.toList == ([112, 97, 99, 107, 97, 103, 101] : List UInt8)) = decide (x0 = wPackage) := str_lit x0 #[112, 97, 99, 107, 97, 103, 101]
  have htI : tIs 1 wPackage (k0, x0, p0) = (decide (k0 = 1) && decide (x0 = wPackage)) := rfl
  have HW0 := Lib.hid (fun w1 => dwrong_any k0 x0 p0 2 w1)
  by_cases hc0 : tIs 1 wPackage (k0, x0, p0) = false
  · have hb := HB0.out (by rw [ht0]; exact hc0)
    rw [ht0] at hb
    have HD : Hid (∀ w', Below w.heap.size w w' → DocP s w (.returned (.tuple #[.agg #[.string ⟨#[]⟩, .slice none 0 0, .string ⟨#[]⟩, .slice none 0 0, .int .i64 (if k0 = 7 then 1 else 2 : Nat), .int .i64 p0], .int .i64 0])) w') := Lib.hid (fun w' hB => HWR.out (if k0 = 7 then 1 else 2) 0 p0 w' (by rw [hb]) (by split <;> decide) (by rw [ht0]) hB)
    rw [htI] at hc0
    generalize (if k0 = 7 then 1 else 2 : Nat) = ft at *
    clear htI hb
    by_cases h1 : k0 = 1
    case neg =>
      rw [decide_eq_false h1] at q1
      have q1n := ne_of_eqb q1
      clear hc0
      go_wp2_with fail
      refine (HW0.out _).mono ?_
      rintro r w2 ⟨rfl, hB⟩
      have HBe := Lib.hid (HB.out.trans (hB.mono HB.out.size))
      have hge := (hB.block w.heap.size (lt_of_block HG.out)).trans HG.out
      have HGe := Lib.hid hge
      have c0 := block_cell hge 0
      have fz0 := block_free hge 0
      have c1 := block_cell hge 1
      have fz1 := block_free hge 1
      have c2 := block_cell hge 2
      have fz2 := block_free hge 2
      have c3 := block_cell hge 3
      have fz3 := block_free hge 3
      have c4 := block_cell hge 4
      have fz4 := block_free hge 4
      have c5 := block_cell hge 5
      have fz5 := block_free hge 5
      clear hB hge
      go_wp2_with fail
      refine pret (w := w2) (g := w.heap.size) (n := .int .i64 0) rfl HGe.out rfl rfl rfl ?_
      exact HD.out _ (below6 HBe.out HGe.out (Nat.le_refl _) _ _ _ _ _ _)
    rw [show (k0 : Int) = 1 from by omega] at HW0
    rw [decide_eq_true h1] at q1 hc0
    have q1n := ne_of_eqb q1
    rw [Bool.true_and] at hc0
    rw [hc0] at q2
    have q2n := ne_of_eqb q2
    clear hc0
    go_wp2_with fail
    refine (HW0.out _).mono ?_
    rintro r w2 ⟨rfl, hB⟩
    have HBe := Lib.hid (HB.out.trans (hB.mono HB.out.size))
    have hge := (hB.block w.heap.size (lt_of_block HG.out)).trans HG.out
    have HGe := Lib.hid hge
    have c0 := block_cell hge 0
    have fz0 := block_free hge 0
    have c1 := block_cell hge 1
    have fz1 := block_free hge 1
    have c2 := block_cell hge 2
    have fz2 := block_free hge 2
    have c3 := block_cell hge 3
    have fz3 := block_free hge 3
    have c4 := block_cell hge 4
    have fz4 := block_free hge 4
    have c5 := block_cell hge 5
    have fz5 := block_free hge 5
    clear hB hge
    go_wp2_with fail
    refine pret (w := w2) (g := w.heap.size) (n := .int .i64 0) rfl HGe.out rfl rfl rfl ?_
    exact HD.out _ (below6 HBe.out HGe.out (Nat.le_refl _) _ _ _ _ _ _)
  rw [Bool.not_eq_false] at hc0
  have hl1 : 1 < (lexL s).length := by have := HI0.out (by rw [ht0]; exact hc0); omega
  have hc0' := hc0
  rw [htI, Bool.and_eq_true] at hc0'
  rw [hc0'.1] at q1
  rw [hc0'.2] at q2
  have q1n := ne_of_eqb q1
  have q2n := ne_of_eqb q2
  have Hc0 := Lib.hid (show tIs 1 wPackage (tk (lexL s) 0) = true by rw [ht0]; exact hc0)
  have Ht0 := Lib.hid ht0
  clear htI hc0 hc0' HW0 ht0 HB0
  obtain ⟨⟨k1, x1, p1⟩, ht1⟩ : ∃ t, tk (lexL s) 1 = t := ⟨_, rfl⟩
  obtain ⟨_, b0, b1, b2⟩ := lat_tk HV.out (by rw [tk_some hl1, ht1] : (lexL s)[1]? = some (k1, x1, p1))
  dsimp only at b0 b1 b2
  simp only [Nat.one_mul] at b0 b1 b2
  have hl1I : (1 : Int) < ((lexL s).length : Int) := by omega
  have r1 : ((k1 : Int) == 1) = decide (k1 = 1) := int_eqb k1 1
  have r2 : (x1.toList == ([95] : List UInt8)) = decide (x1 = ⟨#[95]⟩) := str_lit x1 #[95]
  have HW1 := Lib.hid (fun w1 => dwrong_any k1 x1 p1 2 w1)
  have htn : tName (k1, x1, p1) = (decide (k1 = 1) && !keyB x1) := rfl
  have HK := Lib.hid (fun w1 => dkey_any x1 w1)
  have HB1' := Lib.hid (fun h => HB1.out Hc0.out (by rw [ht1]; exact h))
  rw [ht1] at HB1'
  change Hid (x1 = ⟨#[95]⟩ ∨ tName (k1, x1, p1) = false → _) at HB1'
  rw [htn] at HB1'
  clear HB1
  by_cases h1 : k1 = 1
  case neg =>
    have hb := HB1'.out (.inr (by rw [decide_eq_false h1, Bool.false_and]))
    have HD : Hid (∀ w', Below w.heap.size w w' → DocP s w (.returned (.tuple #[.agg #[.string ⟨#[]⟩, .slice none 0 0, .string ⟨#[]⟩, .slice none 0 0, .int .i64 (if k1 = 7 then 1 else 2 : Nat), .int .i64 p1], .int .i64 1])) w') := Lib.hid (fun w' hB => HWR.out (if k1 = 7 then 1 else 2) 1 p1 w' (by rw [hb]) (by split <;> decide) (by rw [ht1]) hB)
    generalize (if k1 = 7 then 1 else 2 : Nat) = ft at *
    rw [decide_eq_false h1] at r1
    have r1n := ne_of_eqb r1
    clear hb htn
    go_wp2_with fail
    refine (HW1.out _).mono ?_
    rintro r w2 ⟨rfl, hB⟩
    have HBe := Lib.hid (HB.out.trans (hB.mono HB.out.size))
    have hge := (hB.block w.heap.size (lt_of_block HG.out)).trans HG.out
    have HGe := Lib.hid hge
    have c0 := block_cell hge 0
    have fz0 := block_free hge 0
    have c1 := block_cell hge 1
    have fz1 := block_free hge 1
    have c2 := block_cell hge 2
    have fz2 := block_free hge 2
    have c3 := block_cell hge 3
    have fz3 := block_free hge 3
    have c4 := block_cell hge 4
    have fz4 := block_free hge 4
    have c5 := block_cell hge 5
    have fz5 := block_free hge 5
    clear hB hge
    go_wp2_with fail
    refine pret (w := w2) (g := w.heap.size) (n := .int .i64 1) rfl HGe.out rfl rfl rfl ?_
    exact HD.out _ (below6 HBe.out HGe.out (Nat.le_refl _) _ _ _ _ _ _)
  rw [show (k1 : Int) = 1 from by omega] at HW1
  rw [decide_eq_true h1] at r1
  have r1n := ne_of_eqb r1
  by_cases h2 : x1 = ⟨#[95]⟩
  case pos =>
    have hb := HB1'.out (.inl h2)
    have HD : Hid (∀ w', Below w.heap.size w w' → DocP s w (.returned (.tuple #[.agg #[.string ⟨#[]⟩, .slice none 0 0, .string ⟨#[]⟩, .slice none 0 0, .int .i64 (if k1 = 7 then 1 else 2 : Nat), .int .i64 p1], .int .i64 1])) w') := Lib.hid (fun w' hB => HWR.out (if k1 = 7 then 1 else 2) 1 p1 w' (by rw [hb]) (by split <;> decide) (by rw [ht1]) hB)
    generalize (if k1 = 7 then 1 else 2 : Nat) = ft at *
    rw [decide_eq_true h2] at r2
    have r2n := ne_of_eqb r2
    clear hb htn h2
    go_wp2_with fail
    refine (HW1.out _).mono ?_
    rintro r w2 ⟨rfl, hB⟩
    have HBe := Lib.hid (HB.out.trans (hB.mono HB.out.size))
    have hge := (hB.block w.heap.size (lt_of_block HG.out)).trans HG.out
    have HGe := Lib.hid hge
    have c0 := block_cell hge 0
    have fz0 := block_free hge 0
    have c1 := block_cell hge 1
    have fz1 := block_free hge 1
    have c2 := block_cell hge 2
    have fz2 := block_free hge 2
    have c3 := block_cell hge 3
    have fz3 := block_free hge 3
    have c4 := block_cell hge 4
    have fz4 := block_free hge 4
    have c5 := block_cell hge 5
    have fz5 := block_free hge 5
    clear hB hge
    go_wp2_with fail
    refine pret (w := w2) (g := w.heap.size) (n := .int .i64 1) rfl HGe.out rfl rfl rfl ?_
    exact HD.out _ (below6 HBe.out HGe.out (Nat.le_refl _) _ _ _ _ _ _)
  rw [decide_eq_false h2] at r2
  have r2n := ne_of_eqb r2
  cases hkb : keyB x1 with
  | true =>
    have hb := HB1'.out (.inr (by rw [hkb, Bool.not_true, Bool.and_false]))
    rw [hkb] at HK
    have HD : Hid (∀ w', Below w.heap.size w w' → DocP s w (.returned (.tuple #[.agg #[.string ⟨#[]⟩, .slice none 0 0, .string ⟨#[]⟩, .slice none 0 0, .int .i64 (if k1 = 7 then 1 else 2 : Nat), .int .i64 p1], .int .i64 1])) w') := Lib.hid (fun w' hB => HWR.out (if k1 = 7 then 1 else 2) 1 p1 w' (by rw [hb]) (by split <;> decide) (by rw [ht1]) hB)
    generalize (if k1 = 7 then 1 else 2 : Nat) = ft at *
    clear hb htn hkb
    go_wp2_with fail
    refine (HK.out _).mono ?_
    rintro r wk ⟨rfl, hB⟩
    have HBk := Lib.hid (HB.out.trans (hB.mono HB.out.size))
    have HGk := Lib.hid ((hB.block w.heap.size (lt_of_block HG.out)).trans HG.out)
    have b0 := (hB.cell (p := ⟨g1, o1 + 3, none⟩) hg0).trans b0
    have b1 := (hB.cell (p := ⟨g1, o1 + 3 + 1, none⟩) hg0).trans b1
    have b2 := (hB.cell (p := ⟨g1, o1 + 3 + 2, none⟩) hg0).trans b2
    clear hB
    go_wp2_with fail
    refine (HW1.out _).mono ?_
    rintro r w2 ⟨rfl, hB⟩
    have HBe := Lib.hid (HBk.out.trans (hB.mono HBk.out.size))
    have hge := (hB.block w.heap.size (lt_of_block HGk.out)).trans HGk.out
    have HGe := Lib.hid hge
    have c0 := block_cell hge 0
    have fz0 := block_free hge 0
    have c1 := block_cell hge 1
    have fz1 := block_free hge 1
    have c2 := block_cell hge 2
    have fz2 := block_free hge 2
    have c3 := block_cell hge 3
    have fz3 := block_free hge 3
    have c4 := block_cell hge 4
    have fz4 := block_free hge 4
    have c5 := block_cell hge 5
    have fz5 := block_free hge 5
    clear hB hge
    go_wp2_with fail
    refine pret (w := w2) (g := w.heap.size) (n := .int .i64 1) rfl HGe.out rfl rfl rfl ?_
    exact HD.out _ (below6 HBe.out HGe.out (Nat.le_refl _) _ _ _ _ _ _)
  | false =>
    rw [hkb] at HK
    have HTN := Lib.hid (show tName (tk (lexL s) 1) = true by rw [ht1, htn, hkb, decide_eq_true h1]; rfl)
    have HN1 := Lib.hid (show (tk (lexL s) 1).2.1 ≠ ⟨#[95]⟩ by rw [ht1]; exact h2)
    have hl2 : 2 < (lexL s).length := by have := HNm.out hl1 HTN.out; omega
    have Ht1 := Lib.hid ht1
    clear htn hkb HB1' HW1 ht1 HNm HI0
    go_wp2_with fail
    refine (HK.out _).mono ?_
    rintro r wk ⟨rfl, hB⟩
    have HBk := Lib.hid (HB.out.trans (hB.mono HB.out.size))
    have HGk := Lib.hid ((hB.block w.heap.size (lt_of_block HG.out)).trans HG.out)
    have HVk := Lib.hid (HV.out.below hB)
    have HUk := Lib.hid (HU.out.below hB)
    clear hB a0 a1 a2 b0 b1 b2 HV HU HG HB q1 q1n q2 q2n r1 r1n r2 r2n h2 hg0
    obtain ⟨⟨k2, x2, p2⟩, ht2⟩ : ∃ t, tk (lexL s) 2 = t := ⟨_, rfl⟩
    obtain ⟨hg0, b0, b1, b2⟩ := lat_tk HVk.out (by rw [tk_some hl2, ht2] : (lexL s)[2]? = some (k2, x2, p2))
    dsimp only at b0 b1 b2
    have e23 : 2 * 3 = 6 := rfl
    rw [e23] at b0 b1 b2
    have hl2I : (2 : Int) < ((lexL s).length : Int) := by omega
    have HW2 := Lib.hid (fun w1 => dwrong_any k2 x2 p2 2 w1)
    have r1 : ((k2 : Int) == 6) = decide (k2 = 6) := int_eqb k2 6
    have hts : tSemi (k2, x2, p2) = decide (k2 = 6) := rfl
    by_cases h6 : k2 = 6
    case neg =>
      have hb := HB2.out Hc0.out HN1.out HTN.out (by rw [ht2, hts]; exact decide_eq_false h6)
      rw [ht2] at hb
      have HD : Hid (∀ w', Below w.heap.size w w' → DocP s w (.returned (.tuple #[.agg #[.string ⟨#[]⟩, .slice none 0 0, .string ⟨#[]⟩, .slice none 0 0, .int .i64 (if k2 = 7 then 1 else 2 : Nat), .int .i64 p2], .int .i64 2])) w') := Lib.hid (fun w' hB => HWR.out (if k2 = 7 then 1 else 2) 2 p2 w' (by rw [hb]) (by split <;> decide) (by rw [ht2]) hB)
      generalize (if k2 = 7 then 1 else 2 : Nat) = ft at *
      rw [decide_eq_false h6] at r1
      have r1n := ne_of_eqb r1
      clear hb hts
      go_wp2_with fail
      refine (HW2.out _).mono ?_
      rintro r w2 ⟨rfl, hB⟩
      have HBe := Lib.hid (HBk.out.trans (hB.mono HBk.out.size))
      have hge := (hB.block w.heap.size (lt_of_block HGk.out)).trans HGk.out
      have HGe := Lib.hid hge
      have c0 := block_cell hge 0
      have fz0 := block_free hge 0
      have c1 := block_cell hge 1
      have fz1 := block_free hge 1
      have c2 := block_cell hge 2
      have fz2 := block_free hge 2
      have c3 := block_cell hge 3
      have fz3 := block_free hge 3
      have c4 := block_cell hge 4
      have fz4 := block_free hge 4
      have c5 := block_cell hge 5
      have fz5 := block_free hge 5
      clear hB hge
      go_wp2_with fail
      refine pret (w := w2) (g := w.heap.size) (n := .int .i64 2) rfl HGe.out rfl rfl rfl ?_
      exact HD.out _ (below6 HBe.out HGe.out (Nat.le_refl _) _ _ _ _ _ _)
    rw [decide_eq_true h6] at r1
    have r1n := ne_of_eqb r1
    have HTS := Lib.hid (show tSemi (tk (lexL s) 2) = true by rw [ht2, hts]; exact decide_eq_true h6)
    have hl3 : 3 < (lexL s).length := by have := HSm.out hl2 HTS.out; omega
    have hb3 := HB3.out Hc0.out HN1.out HTN.out HTS.out (by omega)
    have HB3' := Lib.hid hb3
    have HIM := Lib.hid (fun w1 h1 => dimps_any ((lexL s).drop 3) _ w1 (lat_drop (HVk.out.below h1) hl3) (end_drop HPS.out.e hl3) (fun i h => by rw [tk_drop] at h ⊢; exact lexL_c s _ h) (by rw [List.length_drop]; omega))
    have Ht2 := Lib.hid ht2
    clear hb3 HB3 HB2 HW2 hts ht2 HTN HN1 HSm b1 b2 Hc0
    have hl3I : (3 : Int) < ((lexL s).length : Int) := by omega
    have hl3J : (3 : Int) ≤ ((lexL s).length : Int) := by omega
    have h3c : 3 < cl := by omega
    have h3z : cl - 3 ≠ 0 := by omega
    have h3e : cl ≠ 3 := by omega
    have hdl : ((lexL s).drop 3).length = (lexL s).length - 3 := List.length_drop
    rw [hdl] at HIM
    go_wp2_with fail
    have HKw := Lib.hid (lt_of_block HGk.out)
    have hdok := declR_ok (end_drop HPS.out.e hl3) ((lexL s).length - 3) 0 [] (by rw [hdl]; omega) (by omega) (Nat.zero_le _)
    rw [hdl] at hdok
    refine (HIM.out wk (Below.refl _ _)).mono ?_
    rintro r w3 ⟨hend, hB⟩
    have HB3w := Lib.hid (HBk.out.trans (hB.mono HBk.out.size))
    have HG3 := Lib.hid ((hB.block w.heap.size (lt_of_block HGk.out)).trans HGk.out)
    have HV3 := Lib.hid (HVk.out.below hB)
    have HU3 := Lib.hid (HUk.out.below hB)
    have HOw := Lib.hid (fun v (h : w3.ownsRow wk.heap.size 38 3 v (declR ((lexL s).drop 3) 0 []).2.2.length (LF imV (declR ((lexL s).drop 3) 0 []).2.2)) => LAt.own (fun y _ => imV_len y) h)
    obtain ⟨n, hn⟩ : ∃ n, (declR ((lexL s).drop 3) 0 []).2.1 = n := ⟨_, rfl⟩
    rw [hn] at hend hdok HB3'
    have hn3 : 3 + n < (lexL s).length := by omega
    have hn3I : 3 + (n : Int) < ((lexL s).length : Int) := by omega
    have hn3N : (3 + (n : Int)).toNat = 3 + n := by omega
    obtain ⟨⟨k3, x3, p3⟩, ht3⟩ : ∃ t, tk (lexL s) (3 + n) = t := ⟨_, rfl⟩
    obtain ⟨hg3, d0, d1, d2⟩ := lat_tk HV3.out (by rw [tk_some hn3, ht3] : (lexL s)[3 + n]? = some (k3, x3, p3))
    dsimp only at d0 d1 d2
    clear hB hdok hg0 b0 hn HVk HUk HGk HBk
    rw [ht3] at HB3'
    rcases hend with ⟨hd1, iv, rfl, hown⟩ | ⟨hd1, rfl⟩
    case inr =>
      have hb := HB3'.out
      have HW3 := Lib.hid (fun w1 => dwrong_any k3 x3 p3 3 w1)
      rw [hd1] at hb
      simp only [Bool.false_eq_true, if_false] at hb
      have HD : Hid (∀ w', Below w.heap.size w w' → DocP s w (.returned (.tuple #[.agg #[.string ⟨#[]⟩, .slice none 0 0, .string ⟨#[]⟩, .slice none 0 0, .int .i64 (if k3 = 7 then 1 else 3 : Nat), .int .i64 p3], .int .i64 (3 + (n : Int))])) w') := Lib.hid (fun w' hB => by
        have h := HWR.out (if k3 = 7 then 1 else 3) (3 + n) p3 w' (by rw [hb]) (by split <;> decide) (by rw [ht3]) hB
        rw [show ((3 + n : Nat) : Int) = 3 + (n : Int) from by omega] at h
        exact h)
      generalize (if k3 = 7 then 1 else 3 : Nat) = ft at *
      clear hb HB3' hd1 HOw ht3
      go_wp2_with fail
      refine (HW3.out _).mono ?_
      rintro r w4 ⟨rfl, hB⟩
      have HBe := Lib.hid (HB3w.out.trans (hB.mono HB3w.out.size))
      have hge := (hB.block w.heap.size (lt_of_block HG3.out)).trans HG3.out
      have HGe := Lib.hid hge
      have c0 := block_cell hge 0
      have fz0 := block_free hge 0
      have c1 := block_cell hge 1
      have fz1 := block_free hge 1
      have c2 := block_cell hge 2
      have fz2 := block_free hge 2
      have c3 := block_cell hge 3
      have fz3 := block_free hge 3
      have c4 := block_cell hge 4
      have fz4 := block_free hge 4
      have c5 := block_cell hge 5
      have fz5 := block_free hge 5
      clear hB hge
      go_wp2_with fail
      refine pret (w := w4) (g := w.heap.size) (n := .int .i64 (3 + (n : Int))) rfl HGe.out rfl rfl rfl ?_
      exact HD.out _ (below6 HBe.out HGe.out (Nat.le_refl _) _ _ _ _ _ _)
    obtain ⟨pi, ci, rfl⟩ := own_shape hown
    have HIO := Lib.hid (fun g (hg : (Value.slice pi (declR ((lexL s).drop 3) 0 []).2.2.length ci).ownBlock = some g) => (by have h1 := (hown.lt g hg).1; have h2 := HKw.out; omega : g ≠ w.heap.size))
    have HI := Lib.hid (HOw.out _ hown)
    have q7 : ((k3 : Int) == 7) = decide (k3 = 7) := int_eqb k3 7
    have hba := (Below.refl w3.heap.size w3).alloc (Nat.le_refl _) (.cells #[.int .i64 k3, .string x3, .int .i64 p3] 35)
    have HBa := Lib.hid (HB3w.out.trans (hba.mono HB3w.out.size))
    have HGa := Lib.hid ((hba.block w.heap.size (lt_of_block HG3.out)).trans HG3.out)
    have HBa2 := HBa
    have HGa2 := HGa
    have Hnew := Lib.hid (heap_alloc_new w3 (.cells #[.int .i64 k3, .string x3, .int .i64 p3] 35))
    have HVa := Lib.hid (HV3.out.below hba)
    have HUa := Lib.hid (HU3.out.below hba)
    have HIa := Lib.hid (HI.out.below hba)
    have hn0I : ¬ (n : Int) < 0 := by omega
    have hb := HB3'.out
    rw [hd1] at hb
    clear hba hown HOw HI HB3' hd1
    by_cases h7 : k3 = 7
    case pos =>
      have HW3 := Lib.hid (fun w1 => dwrong_any k3 x3 p3 0 w1)
      rw [if_pos h7] at HW3 hb
      have HD : Hid (∀ w', Below w.heap.size w w' → DocP s w (.returned (.tuple #[.agg #[.string ⟨#[]⟩, .slice none 0 0, .string ⟨#[]⟩, .slice none 0 0, .int .i64 (1 : Nat), .int .i64 p3], .int .i64 (3 + (n : Int))])) w') := Lib.hid (fun w' hB => by
        have h := HWR.out 1 (3 + n) p3 w' (by rw [hb]) (by decide) (by rw [ht3]) hB
        rw [show ((3 + n : Nat) : Int) = 3 + (n : Int) from by omega] at h
        exact h)
      rw [decide_eq_true h7] at q7
      clear hb ht3 h7
      go_wp2_with fail
      refine (HW3.out _).mono ?_
      rintro r w4 ⟨rfl, hB⟩
      have HBe := Lib.hid (HBa.out.trans (hB.mono HBa.out.size))
      have hge := (hB.block w.heap.size (lt_of_block HGa.out)).trans HGa.out
      have HGe := Lib.hid hge
      have c0 := block_cell hge 0
      have fz0 := block_free hge 0
      have c1 := block_cell hge 1
      have fz1 := block_free hge 1
      have c2 := block_cell hge 2
      have fz2 := block_free hge 2
      have c3 := block_cell hge 3
      have fz3 := block_free hge 3
      have c4 := block_cell hge 4
      have fz4 := block_free hge 4
      have c5 := block_cell hge 5
      have fz5 := block_free hge 5
      clear hB hge
      go_wp2_with fail
      refine pret (w := w4) (g := w.heap.size) (n := .int .i64 (3 + (n : Int))) rfl HGe.out rfl rfl rfl ?_
      exact HD.out _ (below6 HBe.out HGe.out (Nat.le_refl _) _ _ _ _ _ _)
    rw [if_neg h7, if_pos rfl] at hb
    have Hb := Lib.hid hb
    rw [decide_eq_false h7] at q7
    have Ht3 := Lib.hid ht3
    clear hb h7 ht3
    go_upto_region 14 with fail
    generalize w3.alloc (.cells #[.int .i64 k3, .string x3, .int .i64 p3] 35) = wa at *
    generalize w3.heap.size = ge at *
    clear d0 d1 d2
    obtain ⟨_, d0, d1, d2⟩ := lat_tk HVa.out (by rw [tk_some hl1, Ht1.out] : (lexL s)[1]? = some (k1, x1, p1))
    dsimp only at d0 d1 d2
    simp only [Nat.one_mul] at d0 d1 d2
    go_upto_region 15 with fail
    have hwa := heap_alloc_new wa (.cells #[.string x1, .slice pi (declR ((lexL s).drop 3) 0 []).2.2.length ci, .string ⟨#[]⟩, .slice none 0 0, .int .i64 0, .int .i64 0] 26)
    have hbb := (Below.refl wa.heap.size wa).alloc (Nat.le_refl _) (.cells #[.string x1, .slice pi (declR ((lexL s).drop 3) 0 []).2.2.length ci, .string ⟨#[]⟩, .slice none 0 0, .int .i64 0, .int .i64 0] 26)
    have Hbox := Lib.hid hwa
    have HCb := Lib.hid hbb
    have HBb := Lib.hid (HBa.out.trans (hbb.mono HBa.out.size))
    have HGb := Lib.hid ((hbb.block w.heap.size (lt_of_block HGa.out)).trans HGa.out)
    have Hend := Lib.hid ((hbb.block ge (lt_of_block Hnew.out)).trans Hnew.out)
    have HVb := Lib.hid (HVa.out.below hbb)
    have HUb := Lib.hid (HUa.out.below hbb)
    have HIb := Lib.hid (HIa.out.below hbb)
    have Hg10 := Lib.hid (lt_of_block hwa)
    have Hge := Lib.hid (lt_of_block Hnew.out)
    clear d0 d1 d2 hwa hbb
    generalize wa.alloc (.cells #[.string x1, .slice pi (declR ((lexL s).drop 3) 0 []).2.2.length ci, .string ⟨#[]⟩, .slice none 0 0, .int .i64 0, .int .i64 0] 26) = wb at *
    obtain ⟨hgb, d0, d1, d2⟩ := lat_tk HVb.out (by rw [HT0.out, Ht0.out] : (lexL s)[0]? = some (k0, x0, p0))
    dsimp only at d0 d1 d2
    simp only [Nat.zero_mul, Nat.add_zero] at d0 d1 d2
    have hp0 : p0 ≤ s.size := by
      have := HPS.out.tp _ (List.mem_of_getElem? (HT0.out))
      rw [Ht0.out] at this
      exact this
    have HBU := Lib.hid (fun w1 hv => dbuild_any s (lexM s) (.slice pm (lexM s).length cm) p0 w1 hv HPS.out.ml (fun x hx => ⟨(HPS.out.mp x hx).2, (nb_notes s x hx).1, (nb_notes s x hx).2, (HPS.out.mp x hx).1⟩) hs hp0)
    go_wp2_with fail
    refine (HBU.out _ HUb.out).mono ?_
    rintro r w4 ⟨rfl, hB⟩
    have HBc := Lib.hid (HBb.out.trans (hB.mono HBb.out.size))
    have HGc := Lib.hid ((hB.block w.heap.size (lt_of_block HGb.out)).trans HGb.out)
    have HEc := Lib.hid ((hB.block ge (lt_of_block Hend.out)).trans Hend.out)
    have Hxc := Lib.hid ((hB.block wa.heap.size (lt_of_block Hbox.out)).trans Hbox.out)
    have HVc := Lib.hid (HVb.out.below hB)
    have HUc := Lib.hid (HUb.out.below hB)
    have HIc := Lib.hid (HIb.out.below hB)
    have HCc := Lib.hid (HCb.out.trans (hB.mono HCb.out.size))
    clear hB d0 d1 d2 HBb HGb Hend Hbox HVb HUb HIb HBa HGa HBU HCb
    have hor := conR_at s (fl s p0 (lexM s)) p0
    have hbg : (beginR (lexL s)).1 = 0 := by rw [Hb.out]
    have HPB := Lib.hid (fun p hp => parse_build (s := s) hbg (p := p) (by rw [Ht0.out, front_fl, Ht0.out]; exact hp))
    rcases hor with hcr | ⟨p, hcr⟩
    case inr =>
      have HFA := Lib.hid (fun w1 => dfault_any 4 p w1)
      have hpI : (0 : Int) ≤ (p : Int) := by omega
      have hbn : (beginR (lexL s)).2.1 = 3 + n := by rw [Hb.out]
      have HD : Hid (∀ w', Below w.heap.size w w' → DocP s w (.returned (.tuple #[.agg #[.string ⟨#[]⟩, .slice none 0 0, .string ⟨#[]⟩, .slice none 0 0, .int .i64 (4 : Nat), .int .i64 p], .int .i64 (3 + (n : Int))])) w') := Lib.hid (fun w' hB => by
        refine ⟨_, by rw [hbn, show ((3 + n : Nat) : Int) = 3 + (n : Int) from by omega], ?_, hB⟩
        rw [HPB.out p hcr]
        exact fault_at 4 p)
      rw [hcr]
      clear hcr HPB hbg hbn
      go_wp2_with fail
      refine (HFA.out _).mono ?_
      rintro r w5 ⟨rfl, hB⟩
      have HBe := Lib.hid (HBc.out.trans (hB.mono HBc.out.size))
      have hge := (hB.block w.heap.size (lt_of_block HGc.out)).trans HGc.out
      have HGe := Lib.hid hge
      have c0 := block_cell hge 0
      have fz0 := block_free hge 0
      have c1 := block_cell hge 1
      have fz1 := block_free hge 1
      have c2 := block_cell hge 2
      have fz2 := block_free hge 2
      have c3 := block_cell hge 3
      have fz3 := block_free hge 3
      have c4 := block_cell hge 4
      have fz4 := block_free hge 4
      have c5 := block_cell hge 5
      have fz5 := block_free hge 5
      clear hB hge
      go_wp2_with fail
      refine pret (w := w5) (g := w.heap.size) (n := .int .i64 (3 + (n : Int))) rfl HGe.out rfl rfl rfl ?_
      exact HD.out _ (below6 HBe.out HGe.out (Nat.le_refl _) _ _ _ _ _ _)
    have HOK := Lib.hid (fun E he => parse_ok (s := s) hbg (by rw [Ht0.out, front_fl, Ht0.out]; exact hcr) (E := E) he)
    have HEM := Lib.hid (fun p E he => parse_emb (s := s) hbg (by rw [Ht0.out, front_fl, Ht0.out]; exact hcr) (p := p) (E := E) he)
    have hbn : (beginR (lexL s)).2.1 = 3 + n := by rw [Hb.out]
    have hbi : (beginR (lexL s)).2.2 = (declR ((lexL s).drop 3) 0 []).2.2 := by rw [Hb.out]
    rw [back_bk, hbn, Ht2.out, Ht3.out] at HOK HEM
    rw [Ht0.out, Ht1.out, front_fl, Ht0.out, hbi] at HOK
    dsimp only at HOK HEM
    have Hbn := Lib.hid hbn
    rw [hcr]
    obtain ⟨bd, hbd⟩ : ∃ bd, (conR s (fl s p0 (lexM s)) p0).1 = bd := ⟨_, rfl⟩
    rw [hbd] at HOK ⊢
    obtain ⟨Im, hIm⟩ : ∃ Im, (declR ((lexL s).drop 3) 0 []).2.2 = Im := ⟨_, rfl⟩
    rw [hIm] at HOK Hxc HIa HIc HIO ⊢
    clear HPB hbg hcr hbn hbi hbd hIm
    have hmxI : ¬ (0 : Int) ≤ -1 := by decide
    have hx := Hxc.out
    have xc2 := block_cell hx 2
    have xf2 := block_free hx 2
    have hrow := setCell_eq_setRow w4 wa.heap.size 2 _ 26 (0, 0) (.string bd) hx
    have Hbx := Lib.hid (show (w4.setCell ⟨wa.heap.size, 2, none⟩ (.string bd)).heap[wa.heap.size]? = some (.cells #[.string x1, .slice pi Im.length ci, .string bd, .slice none 0 0, .int .i64 0, .int .i64 0] 26 (0, 0)) from by
      rw [hrow]
      exact setRow_heap _ _ _ _ _ _ hx)
    have HC5 := Lib.hid (Below.setCell HCc.out (p := ⟨wa.heap.size, 2, none⟩) (Nat.le_refl _) (.string bd))
    have HB5 := Lib.hid (Below.setCell HBc.out (p := ⟨wa.heap.size, 2, none⟩) (by have := HBa2.out.size; omega) (.string bd))
    have hne5 : wa.heap.size ≠ w.heap.size := by have := HGa2.out; have := lt_of_block HGa2.out; omega
    have HG5 := Lib.hid ((HC5.out.block w.heap.size (lt_of_block HGa2.out)).trans HGa2.out)
    clear hx hrow
    go_wp2_with fail
    clear xc2 xf2
    generalize w4.setCell ⟨wa.heap.size, 2, none⟩ (.string bd) = w5 at *
    go_loopg [127] (lexM s).length (fun g iv wr => ∃ (kk : Nat) (E : List ByteArray) (ev : Value), kk + g = (lexM s).length ∧ iv = .int .i64 kk ∧ E.length ≤ kk * 1048576 ∧ Hid (wr.heap[wa.heap.size]? = some (.cells #[.string x1, .slice pi Im.length ci, .string bd, ev, .int .i64 0, .int .i64 0] 26 (0, 0))) ∧ Hid (wr.ownsRow (wa.heap.size + 1) 9 1 ev E.length (LF strV E)) ∧ Hid (embGo (bk s p2 p3 (lexM s)) [] = embGo (bk s p2 p3 ((lexM s).drop kk)) E) ∧ Hid (Below wa.heap.size wa wr) ∧ Hid (Below w.heap.size w wr))
    case atStart => exact ⟨0, [], .slice none 0 0, by omega, rfl, Nat.zero_le _, Hbx, Lib.hid ⟨rfl, .inl ⟨rfl, rfl⟩⟩, Lib.hid (by rw [List.drop_zero]), HC5, HB5⟩
    case round =>
      obtain ⟨kk, E, ev, hkg, rfl, hEl, HX, HO, HEG, HCr, HBr⟩ := hrel
      obtain ⟨pe, ce, rfl⟩ := own_shape HO.out
      have HGr := Lib.hid ((HCr.out.block w.heap.size (lt_of_block HGa2.out)).trans HGa2.out)
      by_cases hkk : kk < (lexM s).length
      case neg =>
        have hnI : ¬ (kk : Int) < ((lexM s).length : Int) := by omega
        have hd : (lexM s).drop kk = [] := List.drop_of_length_le (by omega)
        have HE := Lib.hid (HEG.out.trans (by rw [hd]; rfl : embGo (bk s p2 p3 ((lexM s).drop kk)) E = (none, E)))
        have HR := Lib.hid (HOK.out E HE.out)
        have hx := HX.out
        have hg := HGr.out
        have xc0 := block_cell hx 0
        have xf0 := block_free hx 0
        have xc1 := block_cell hx 1
        have xf1 := block_free hx 1
        have xc2 := block_cell hx 2
        have xf2 := block_free hx 2
        have xc3 := block_cell hx 3
        have xf3 := block_free hx 3
        have xc4 := block_cell hx 4
        have xf4 := block_free hx 4
        have xc5 := block_cell hx 5
        have xf5 := block_free hx 5
        have gc0 := block_cell hg 0
        have gf0 := block_free hg 0
        have gc1 := block_cell hg 1
        have gf1 := block_free hg 1
        have gc2 := block_cell hg 2
        have gf2 := block_free hg 2
        have gc3 := block_cell hg 3
        have gf3 := block_free hg 3
        have gc4 := block_cell hg 4
        have gf4 := block_free hg 4
        have gc5 := block_cell hg 5
        have gf5 := block_free hg 5
        clear hx hg hd HEG HOK HEM
        go_wp2_with fail
        refine pret (w := wr) (g := w.heap.size) (n := .int .i64 (3 + (n : Int))) rfl HGr.out rfl rfl rfl ?_
        refine ⟨_, by rw [Hbn.out, show ((3 + n : Nat) : Int) = 3 + (n : Int) from by omega], ?_, below6 HBr.out HGr.out (Nat.le_refl _) _ _ _ _ _ _⟩
        rw [HR.out]
        exact ⟨_, _, rfl, (HIa.out.below HCr.out).rowFar HIO.out, (LAt.own (fun y _ => strV_len y) HO.out).rowFar (fun g hg => by have h1 := (HO.out.lt g hg).1; have h2 := lt_of_block HGa2.out; omega)⟩
      have hkI : (kk : Int) < ((lexM s).length : Int) := by omega
      have hml := HPS.out.ml
      obtain ⟨gm, om, rfl⟩ := Hpm.out (by omega)
      obtain ⟨⟨k, x, p⟩, hx⟩ : ∃ t, (lexM s)[kk]? = some t := ⟨_, List.getElem?_eq_getElem hkk⟩
      have hmm := List.mem_of_getElem? hx
      have hMP := HPS.out.mp _ hmm
      have Hnb := Lib.hid (nb_notes s _ hmm)
      have HNA := Lib.hid ((lexL_s s).2 _ hmm)
      change p ≤ s.size ∧ x.size ≤ 1048576 at hMP
      obtain ⟨hps, hxz⟩ := hMP
      obtain ⟨hgm, e0, e1, e2⟩ := lat_tk (HUa.out.below HCr.out) hx
      dsimp only at e0 e1 e2
      have hdr : (lexM s).drop kk = (k, x, p) :: (lexM s).drop (kk + 1) := by
        rw [List.drop_eq_getElem_cons hkk]
        rw [List.getElem?_eq_getElem hkk] at hx
        injection hx with hx
        rw [hx]
      rw [hdr] at HEG
      have HNO := Lib.hid (fun h => HEG.out.trans (congrArg (fun z => embGo z E) (bk_no (s := s) (a := p2) (b := p3) (x := (k, x, p)) (M := (lexM s).drop (kk + 1)) h)))
      have hba := (Below.refl wr.heap.size wr).alloc (Nat.le_refl _) (.cells #[.int .i64 k, .string x, .int .i64 p] 35)
      have HBz := Lib.hid (HBr.out.trans (hba.mono HBr.out.size))
      have HCa := Lib.hid (HCr.out.trans (hba.mono HCr.out.size))
      have HOa := Lib.hid (gen_own_below HO.out hba)
      have HXa := Lib.hid ((hba.block _ (lt_of_block HX.out)).trans HX.out)
      have Hn3 := Lib.hid (heap_alloc_new wr (.cells #[.int .i64 k, .string x, .int .i64 p] 35))
      clear hba hdr hx hmm
      go_upto_region 22 with fail
      clear e0 e1 e2 hgm
      generalize wr.alloc (.cells #[.int .i64 k, .string x, .int .i64 p] 35) = wz at *
      generalize wr.heap.size = gx at *
      obtain ⟨_, f0, f1, f2⟩ := lat_tk (HVa.out.below HCa.out) (by rw [tk_some hl2, Ht2.out] : (lexL s)[2]? = some (k2, x2, p2))
      dsimp only at f0 f1 f2
      rw [show 2 * 3 = 6 from rfl] at f0 f1 f2
      have hge := (HCa.out.block ge (lt_of_block Hnew.out)).trans Hnew.out
      have g2 := block_cell hge 2
      have n2 := block_cell Hn3.out 2
      have n0 := block_cell Hn3.out 0
      have n1 := block_cell Hn3.out 1
      clear f0 f1 hge
      by_cases h1 : p < p2
      · have h1I : (p : Int) < (p2 : Int) := by omega
        have HEn := Lib.hid (HNO.out (fun h => by have h3 : p2 < p := h.1.1; omega))
        go_quiet (fail)
        go_wp2_with fail
        go_roundg (gk - 1)
        case measure => omega
        case rel => exact ⟨kk + 1, E, _, by omega, by go_num, by rw [Nat.add_mul]; exact Nat.le_trans hEl (Nat.le_add_right _ _), Lib.hid HXa.out, Lib.hid (gen_own_below HOa.out (below_drewN (Below.refl _ _) nq)), HEn, Lib.hid (below_drewN HCa.out nq), Lib.hid (below_drewN HBz.out nq)⟩
      have h1I : ¬ (p : Int) < (p2 : Int) := by omega
      by_cases h2 : p < p3
      case neg =>
        have h2I : (p3 : Int) ≤ (p : Int) := by omega
        have h2J : ¬ (p : Int) < (p3 : Int) := by omega
        have HEn := Lib.hid (HNO.out (fun h => h2 h.1.2))
        go_quiet (fail)
        go_wp2_with fail
        go_roundg (gk - 1)
        case measure => omega
        case rel => exact ⟨kk + 1, E, _, by omega, by go_num, by rw [Nat.add_mul]; exact Nat.le_trans hEl (Nat.le_add_right _ _), Lib.hid HXa.out, Lib.hid (gen_own_below HOa.out (below_drewN (Below.refl _ _) nq)), HEn, Lib.hid (below_drewN HCa.out nq), Lib.hid (below_drewN HBz.out nq)⟩
      have h2I : ¬ (p3 : Int) ≤ (p : Int) := by omega
      have h2J : (p : Int) < (p3 : Int) := by omega
      have HA0 := Lib.hid (fun w1 => dalone_any s k x p w1 hs hxz Hnb.out.1 Hnb.out.2 hps)
      obtain ⟨al, hal⟩ : ∃ al, aloneB s (k, x, p) = al := ⟨_, rfl⟩
      rw [hal] at HA0
      have HA := Lib.hid (fun w1 (hh : Below wz.heap.size wz w1) => (HA0.out w1).mono (fun e w' h => (⟨h.1, hh.trans (h.2.mono hh.size)⟩ : e = .returned (.bool al) ∧ Below wz.heap.size wz w')))
      clear HA0
      have hzg := HCa.out.size
      have hltg := lt_of_block Hn3.out
      have hlte := Nat.lt_of_lt_of_le (lt_of_block Hnew.out) hzg
      have hltt : g1 < wz.heap.size := by
        have h := (lat_tk (HVa.out.below HCa.out) (by rw [tk_some hl2, Ht2.out] : (lexL s)[2]? = some (k2, x2, p2))).1
        exact h
      have HL1 := Lib.hid (fun w1 (hw : Below wz.heap.size wz w1) => (by have h := (hw.cell (p := ⟨gx, 2, none⟩) hltg).trans n2; simp [go_sem, h] : (loadVar 3 ⟨gx, 2, none⟩).run Tryz.prog w1 = .ok (.int .i64 p) w1))
      have HL2 := Lib.hid (fun w1 (hw : Below wz.heap.size wz w1) => (by have h := (hw.cell (p := ⟨g1, o1 + 6 + 2, none⟩) hltt).trans f2; simp [go_sem, h] : (loadVar 3 ⟨g1, o1 + 6 + 2, none⟩).run Tryz.prog w1 = .ok (.int .i64 p2) w1))
      have HL3 := Lib.hid (fun w1 (hw : Below wz.heap.size wz w1) => (by have h := (hw.cell (p := ⟨ge, 2, none⟩) hlte).trans g2; simp [go_sem, h] : (loadVar 3 ⟨ge, 2, none⟩).run Tryz.prog w1 = .ok (.int .i64 p3) w1))
      have HL4 := Lib.hid (fun w1 (hw : Below wz.heap.size wz w1) => run_loadVar_row w1 gx 35 35 #[.int .i64 k, .string x, .int .i64 p] (0, 0) _ ((hw.block gx hltg).trans Hn3.out) Tryz.underlying35 rfl (by kernel_rfl : (Tryz.prog.info? 35).map (·.size) = some 3))
      refine wp_region_class (Below wz.heap.size wz) (by kernel_rfl) (by kernel_rfl) (Below.refl _ _).drew ?_
      repeat (go_big_quiet_step (first | (intro hh; with_reducible exact HA.out _ hh) | (intro _; rfl)))
      refine wpQuiet_load_at (by simp [Region.wanted, yielded, Act.put]) 3 (.tmp 131) rfl ⟨gx, 2, none⟩ rfl (.int .i64 p) HL1.out ?_
      simp only [Act.put, List.setIfInBounds_toArray, List.set_cons_succ, List.set_cons_zero]
      repeat (go_big_quiet_step (first | (intro hh; with_reducible exact HA.out _ hh) | (intro _; rfl)))
      have hd1 : decide ((p : Int) < (p2 : Int)) = false := decide_eq_false h1I
      have hd2 : decide ((p3 : Int) ≤ (p : Int)) = false := decide_eq_false h2I
      refine wpQuiet_load_at (by simp [Region.wanted, yielded, Act.put]) 3 (.tmp 135) rfl ⟨g1, o1 + 6 + 2, none⟩ rfl (.int .i64 p2) HL2.out ?_
      simp only [Act.put, List.setIfInBounds_toArray, List.set_cons_succ, List.set_cons_zero]
      repeat (go_big_quiet_step (first | (intro hh; with_reducible exact HA.out _ hh) | (intro _; rfl)))
      refine wpQuiet_load_at (by simp [Region.wanted, yielded, Act.put]) 3 (.tmp 139) rfl ⟨gx, 2, none⟩ rfl (.int .i64 p) HL1.out ?_
      simp only [Act.put, List.setIfInBounds_toArray, List.set_cons_succ, List.set_cons_zero]
      repeat (go_big_quiet_step (first | (intro hh; with_reducible exact HA.out _ hh) | (intro _; rfl)))
      refine wpQuiet_load_at (by simp [Region.wanted, yielded, Act.put]) 3 (.tmp 141) rfl ⟨ge, 2, none⟩ rfl (.int .i64 p3) HL3.out ?_
      simp only [Act.put, List.setIfInBounds_toArray, List.set_cons_succ, List.set_cons_zero]
      repeat (go_big_quiet_step (first | (intro hh; with_reducible exact HA.out _ hh) | (intro _; rfl)))
      refine wpQuiet_load_at (by simp [Region.wanted, yielded, Act.put]) 35 (.tmp 14) rfl ⟨gx, 0, none⟩ rfl (.agg #[.int .i64 k, .string x, .int .i64 p]) HL4.out ?_
      simp only [Act.put, List.setIfInBounds_toArray, List.set_cons_succ, List.set_cons_zero]
      repeat (go_big_quiet_step (first | (intro hh; with_reducible exact HA.out _ hh) | (intro _; rfl)))
      refine wpQuiet_nil ?_
      intro wq hBq
      have HXq := Lib.hid ((hBq.block _ (lt_of_block HXa.out)).trans HXa.out)
      have HOq := Lib.hid (gen_own_below HOa.out hBq)
      have HCq := Lib.hid (HCa.out.trans (hBq.mono HCa.out.size))
      have HBq := Lib.hid (HBz.out.trans (hBq.mono HBz.out.size))
      have Hnq := Lib.hid ((hBq.block gx hltg).trans Hn3.out)
      clear hBq HXa HOa HCa HBz Hn3 HL1 HL2 HL3 HL4 HA hltg hlte hltt hzg n0 n1 n2 g2 f2
      cases al with
      | false =>
        have HEn := Lib.hid (HNO.out (fun h => Bool.noConfusion (hal.symm.trans h.2)))
        clear hal
        go_wp2_with fail
        go_roundg (gk - 1)
        case measure => omega
        case rel => exact ⟨kk + 1, E, _, by omega, by go_num, by rw [Nat.add_mul]; exact Nat.le_trans hEl (Nat.le_add_right _ _), HXq, HOq, HEn, HCq, HBq⟩
      | true =>
        have hpre : Lib.hasPrefix x.data.toList [47, 47] = true := by
          have h := hal
          unfold aloneB at h
          exact (Bool.and_eq_true _ _ ▸ h).1
        have hsem : SemA s p2 := by
          have h := (lexL_s s).1 (tk (lexL s) 2) (List.mem_of_getElem? (tk_some hl2)) (of_decide_eq_true (show decide ((tk (lexL s) 2).1 = 6) = true from HTS.out))
          rw [Ht2.out] at h
          exact h
        have hne : p2 ≠ p := semi_note hsem HNA.out hpre
        have hyes := bk_yes (s := s) (a := p2) (b := p3) (x := (k, x, p)) (M := (lexM s).drop (kk + 1)) (show p2 < p by omega) h2 hal
        rw [hyes] at HEG
        have HD := Lib.hid (fun w1 => dwords_any x dEmbed w1 hxz (by decide))
        rw [embed_slash hpre] at HD
        have hdz := embD_size x
        have hns : Ns (embD x).1 := dirR_ns _ _
        obtain ⟨db, hdb⟩ : ∃ db, (embD x).2 = db := ⟨_, rfl⟩
        rw [hdb] at HD
        have HC0 : Hid ((embD x).2 = false → embGo (bk s p2 p3 (lexM s)) [] = embGo (bk s p2 p3 ((lexM s).drop (kk + 1))) E) := Lib.hid (fun h => HEG.out.trans (embGo_no (x := (k, x, p)) h))
        have HC1 : Hid ((embD x).2 = true → patsGo (embD x).1 [] = none → embGo (bk s p2 p3 (lexM s)) [] = (some p, [])) := Lib.hid (fun h hp => HEG.out.trans (embGo_none (x := (k, x, p)) h hp))
        have HC2 : Hid ((embD x).2 = true → ∀ L, patsGo (embD x).1 [] = some L → ¬ 0 < L.length → embGo (bk s p2 p3 (lexM s)) [] = (some p, [])) := Lib.hid (fun h L hp hl => HEG.out.trans (embGo_zero (x := (k, x, p)) h hp hl))
        have HC3 : Hid ((embD x).2 = true → ∀ L, patsGo (embD x).1 [] = some L → 0 < L.length → embGo (bk s p2 p3 (lexM s)) [] = embGo (bk s p2 p3 ((lexM s).drop (kk + 1))) (E ++ L)) := Lib.hid (fun h L hp hl => HEG.out.trans (embGo_some (x := (k, x, p)) h hp hl))
        rw [hdb] at HC0 HC1 HC2 HC3
        clear hdb
        have hdz2 : (embD x).1.size ≤ 1048576 := Nat.le_trans hdz hxz
        have HPT := Lib.hid (fun w1 => dpats_any (embD x).1 w1 hdz2 hns)
        generalize (embD x).1 = d at *
        have n1 := block_cell Hnq.out 1
        have n2 := block_cell Hnq.out 2
        clear hpre hsem hne hyes HEG HNO hal hdz hns
        go_wp2_with fail
        refine (HD.out _).mono ?_
        rintro r w6 ⟨rfl, rfl⟩
        cases db
        case false =>
          have HEn := Lib.hid (HC0.out rfl)
          clear HC0 HC1 HC2 HC3
          go_wp2_with fail
          go_roundg (gk - 1)
          case measure => omega
          case rel => exact ⟨kk + 1, E, _, by omega, by go_num, by rw [Nat.add_mul]; exact Nat.le_trans hEl (Nat.le_add_right _ _), HXq, HOq, HEn, HCq, HBq⟩
        go_wp2_with fail
        refine (HPT.out _).mono ?_
        rintro r w6 ⟨hpt, hB⟩
        have HB6 := Lib.hid (HBq.out.trans (hB.mono HBq.out.size))
        have HC6 := Lib.hid (HCq.out.trans (hB.mono HCq.out.size))
        have HO6 := Lib.hid (gen_own_below HOq.out hB)
        have HX6 := Lib.hid ((hB.block _ (lt_of_block HXq.out)).trans HXq.out)
        have HG6 := Lib.hid ((HC6.out.block w.heap.size (lt_of_block HGa2.out)).trans HGa2.out)
        have hn6 := (hB.block gx (lt_of_block Hnq.out)).trans Hnq.out
        have n2 := block_cell hn6 2
        clear hB HBq HCq HOq HXq hn6 n1 HD HPT
        rcases hpt with ⟨L, v2, hpg, rfl, hLA, hLl, hLs⟩ | ⟨hpg, rfl⟩
        case inr =>
          have HF := Lib.hid (HC1.out (by simp) hpg)
          clear hpg
          have HFA := Lib.hid (fun w1 => dfault_any 5 p w1)
          have HD5 : Hid (∀ w', Below w.heap.size w w' → DocP s w (.returned (.tuple #[.agg #[.string ⟨#[]⟩, .slice none 0 0, .string ⟨#[]⟩, .slice none 0 0, .int .i64 (5 : Nat), .int .i64 p], .int .i64 (3 + (n : Int))])) w') := Lib.hid (fun w' hB => by
            refine ⟨_, by rw [Hbn.out, show ((3 + n : Nat) : Int) = 3 + (n : Int) from by omega], ?_, hB⟩
            rw [HEM.out p [] HF.out]
            exact fault_at 5 p)
          clear HC0 HC1 HC2 HC3
          go_wp2_with fail
          refine (HFA.out _).mono ?_
          rintro r w7 ⟨rfl, hB⟩
          have HBe := Lib.hid (HB6.out.trans (hB.mono HB6.out.size))
          have hge2 := (hB.block w.heap.size (lt_of_block HG6.out)).trans HG6.out
          have HGe := Lib.hid hge2
          have c0 := block_cell hge2 0
          have fz0 := block_free hge2 0
          have c1 := block_cell hge2 1
          have fz1 := block_free hge2 1
          have c2 := block_cell hge2 2
          have fz2 := block_free hge2 2
          have c3 := block_cell hge2 3
          have fz3 := block_free hge2 3
          have c4 := block_cell hge2 4
          have fz4 := block_free hge2 4
          have c5 := block_cell hge2 5
          have fz5 := block_free hge2 5
          clear hB hge2
          go_wp2_with fail
          refine pret (w := w7) (g := w.heap.size) (n := .int .i64 (3 + (n : Int))) rfl HGe.out rfl rfl rfl ?_
          exact HD5.out _ (below6 HBe.out HGe.out (Nat.le_refl _) _ _ _ _ _ _)
        by_cases hl0 : 0 < L.length
        case neg =>
          have HF := Lib.hid (HC2.out (by simp) L hpg hl0)
          rw [decide_eq_false hl0]
          clear hpg hLA hLs
          have HFA := Lib.hid (fun w1 => dfault_any 5 p w1)
          have HD5 : Hid (∀ w', Below w.heap.size w w' → DocP s w (.returned (.tuple #[.agg #[.string ⟨#[]⟩, .slice none 0 0, .string ⟨#[]⟩, .slice none 0 0, .int .i64 (5 : Nat), .int .i64 p], .int .i64 (3 + (n : Int))])) w') := Lib.hid (fun w' hB => by
            refine ⟨_, by rw [Hbn.out, show ((3 + n : Nat) : Int) = 3 + (n : Int) from by omega], ?_, hB⟩
            rw [HEM.out p [] HF.out]
            exact fault_at 5 p)
          clear HC0 HC1 HC2 HC3
          go_wp2_with fail
          refine (HFA.out _).mono ?_
          rintro r w7 ⟨rfl, hB⟩
          have HBe := Lib.hid (HB6.out.trans (hB.mono HB6.out.size))
          have hge2 := (hB.block w.heap.size (lt_of_block HG6.out)).trans HG6.out
          have HGe := Lib.hid hge2
          have c0 := block_cell hge2 0
          have fz0 := block_free hge2 0
          have c1 := block_cell hge2 1
          have fz1 := block_free hge2 1
          have c2 := block_cell hge2 2
          have fz2 := block_free hge2 2
          have c3 := block_cell hge2 3
          have fz3 := block_free hge2 3
          have c4 := block_cell hge2 4
          have fz4 := block_free hge2 4
          have c5 := block_cell hge2 5
          have fz5 := block_free hge2 5
          clear hB hge2
          go_wp2_with fail
          refine pret (w := w7) (g := w.heap.size) (n := .int .i64 (3 + (n : Int))) rfl HGe.out rfl rfl rfl ?_
          exact HD5.out _ (below6 HBe.out HGe.out (Nat.le_refl _) _ _ _ _ _ _)
        have HF := Lib.hid (HC3.out (by simp) L hpg hl0)
        rw [decide_eq_true hl0]
        have HLA := Lib.hid hLA
        have hE2 : (E ++ L).length ≤ (kk + 1) * 1048576 := by rw [List.length_append, Nat.add_mul]; omega
        have hbz : wa.heap.size + 1 ≤ w6.heap.size := lt_of_block HX6.out
        have hxx := HX6.out
        have xc3 := block_cell hxx 3
        clear HC0 HC1 HC2 HC3 hpg hLA hLs hxx
        go_wp2_with (first | (at_builtin; go_must (refine wpList_append_gen eltS rfl (.tmp 172) (.tmp 173) rfl rfl (wa.heap.size + 1) _ E rfl HO6.out _ L HLA.out rfl (by omega) (by unfold maxLen; omega) hbz ?_); intro va wA hoa hga; obtain ⟨pA, cA, rfl⟩ := own_shape hoa; have hgr := (Below.refl (wa.heap.size + 1) w6).grown hga hbz (fun k hk => (HO6.out.lt k hk).1); have hxA := (hgr.block wa.heap.size (Nat.lt_succ_self _)).trans HX6.out; have yc3 := block_cell hxA 3; have yf3 := block_free hxA 3; have HGR := Lib.hid hgr; have HXA := Lib.hid hxA; have Hoa := Lib.hid hoa; clear hgr hxA hoa hga))
        have hrw := setCell_eq_setRow wA wa.heap.size 3 _ 26 (0, 0) (.slice pA (E ++ L).length cA) HXA.out
        have HXn := Lib.hid (show (wA.setCell ⟨wa.heap.size, 3, none⟩ (.slice pA (E ++ L).length cA)).heap[wa.heap.size]? = some (.cells #[.string x1, .slice pi Im.length ci, .string bd, .slice pA (E ++ L).length cA, .int .i64 0, .int .i64 0] 26 (0, 0)) from by
          rw [hrw]
          exact setRow_heap _ _ _ _ _ _ HXA.out)
        have HCA := Lib.hid (HC6.out.trans (HGR.out.mono (Nat.le_succ _)))
        have HBA := Lib.hid (HB6.out.trans (HGR.out.mono (by have h1 := HBa2.out.size; omega)))
        have HCn := Lib.hid (Below.setCell HCA.out (p := ⟨wa.heap.size, 3, none⟩) (Nat.le_refl _) (.slice pA (E ++ L).length cA))
        have HBn := Lib.hid (Below.setCell HBA.out (p := ⟨wa.heap.size, 3, none⟩) HBa2.out.size (.slice pA (E ++ L).length cA))
        have HOn : Hid ((wA.setCell ⟨wa.heap.size, 3, none⟩ (.slice pA (E ++ L).length cA)).ownsRow (wa.heap.size + 1) 9 1 (.slice pA (E ++ L).length cA) (E ++ L).length (LF strV (E ++ L))) := Lib.hid (by
          rw [hrw]
          exact own_rowFar Hoa.out (Nat.le_refl _) (Nat.lt_succ_self _))
        clear hrw
        go_wp2_with fail
        go_roundg (gk - 1)
        case measure => omega
        case rel => exact ⟨kk + 1, E ++ L, .slice pA (E.length + L.length) cA, by omega, by go_num, hE2, (by rw [← List.length_append]; exact HXn), (by rw [← List.length_append]; exact HOn), HF, (by rw [← List.length_append]; exact HCn), (by rw [← List.length_append]; exact HBn)⟩
end Go.Proofs.YtejogobhnbjpdaaGreatDoor
