/- Walks: a file's beginning, parsed; What the tokens and comments of a text are, for Parse; Walks: the law's plain; Walks: ContainsAny, out of IndexAny. -/
import Derived.Test.YtejogobhnbjpdaaDoorP3
import Derived.Test.YtejogobhnbjpdaaDoorHb
namespace Go.Proofs.YtejogobhnbjpdaaDoor
set_option linter.unusedVariables false
set_option linter.unusedSimpArgs false
open Go.ChangeShapes Go.WideShapes Go.ChangeAt Go.RowKit

/-- A header: name, imports, constraint, patterns, fault, place. -/
structure Hdr where
  name : ByteArray
  imp : List Im
  build : ByteArray
  emb : List ByteArray
  fault : Nat
  at_ : Nat
def Hdr.wrong (f a : Nat) : Hdr := ⟨⟨#[]⟩, [], ⟨#[]⟩, [], f, a⟩
/-- A header in memory. -/
def HAt (w : World) (v : Value) (h : Hdr) : Prop := ∃ iv ev, v = .agg #[.string h.name, iv, .string h.build, ev, .int .i64 h.fault, .int .i64 h.at_] ∧ LAt 3 imV w iv h.imp ∧ LAt 1 strV w ev h.emb
/-- What the walk of Parse wants of a text's tokens and comments. -/
structure PreS (s : ByteArray) : Prop where
  e : EndT (lexL s)
  tl : (lexL s).length ≤ 4194304
  ml : (lexM s).length ≤ 4194304
  tp : ∀ x ∈ lexL s, x.2.2 ≤ s.size
  mp : ∀ x ∈ lexM s, x.2.2 ≤ s.size ∧ x.2.1.size ≤ 1048576
def notesR (s : ByteArray) : List Tk := (lexM s).filter (aloneB s)
def frontR (s : ByteArray) : List Tk := (notesR s).filter (inB (-1) ((tk (lexL s) 0).2.2 : Nat))
def backR (s : ByteArray) : List Tk := (notesR s).filter (inB ((tk (lexL s) 2).2.2 : Nat) ((tk (lexL s) (beginR (lexL s)).2.1).2.2 : Nat))
def parseR (s : ByteArray) : Hdr :=
  if (beginR (lexL s)).1 ≠ 0 then .wrong (beginR (lexL s)).1 (tk (lexL s) (beginR (lexL s)).2.1).2.2
  else if 0 ≤ (conR s (frontR s) (tk (lexL s) 0).2.2).2 then .wrong 4 (conR s (frontR s) (tk (lexL s) 0).2.2).2.toNat
  else match embGo (backR s) [] with
  | (some p, _) => .wrong 5 p
  | (none, E) => ⟨(tk (lexL s) 1).2.1, (beginR (lexL s)).2.2, (conR s (frontR s) (tk (lexL s) 0).2.2).1, E, 0, 0⟩
theorem set6 (w : World) (g : Nat) (a b c d e f p q r x y z : Value) (t : TypeId) (fr : Nat × Nat) (hg : w.heap[g]? = some (.cells #[a, b, c, d, e, f] t fr)) :
    ((((((w.setCell ⟨g, 0, none⟩ p).setCell ⟨g, 1, none⟩ q).setCell ⟨g, 2, none⟩ r).setCell ⟨g, 3, none⟩ x).setCell ⟨g, 4, none⟩ y).setCell ⟨g, 5, none⟩ z) = w.setRow g #[p, q, r, x, y, z] := by
  rw [setCell_eq_setRow w g 0 _ t fr p hg, setCell_eq_setRow _ g 1 _ t fr q (setRow_heap _ _ _ _ _ _ hg), setRow_setRow,
    setCell_eq_setRow _ g 2 _ t fr r (setRow_heap _ _ _ _ _ _ hg), setRow_setRow,
    setCell_eq_setRow _ g 3 _ t fr x (setRow_heap _ _ _ _ _ _ hg), setRow_setRow,
    setCell_eq_setRow _ g 4 _ t fr y (setRow_heap _ _ _ _ _ _ hg), setRow_setRow,
    setCell_eq_setRow _ g 5 _ t fr z (setRow_heap _ _ _ _ _ _ hg), setRow_setRow]
  rfl
theorem size41 : (Tryd.prog.info? 41).map (·.size) = some 6 := by as_aux_lemma => kernel_rfl
theorem below6 {B g : Nat} {w0 w : World} {a b c d e f : Value} {t : TypeId} (hb : Below B w0 w) (hg : w.heap[g]? = some (.cells #[a, b, c, d, e, f] t (0, 0))) (h : B ≤ g) (p q r x y z : Value) : Below B w0 (w.setRow g #[p, q, r, x, y, z]) := by
  rw [← set6 w g _ _ _ _ _ _ p q r x y z _ _ hg]
  exact (((((Below.setCell hb (p := ⟨g, 0, none⟩) h _).setCell (p := ⟨g, 1, none⟩) h _).setCell (p := ⟨g, 2, none⟩) h _).setCell (p := ⟨g, 3, none⟩) h _).setCell (p := ⟨g, 4, none⟩) h _).setCell (p := ⟨g, 5, none⟩) h _
theorem ret24 {R : Ending → World → Prop} {ac : Act} (w : World) (g : Nat) (a b c d e f p q r x y z : Value) (hg : w.heap[g]? = some (.cells #[a, b, c, d, e, f] 41 (0, 0)))
    (hp : ac.tmps.getD 2 undef = .pointer (some ⟨g, 0, none⟩)) (hd : ac.defers = []) (hR : R (.returned (.agg #[p, q, r, x, y, z])) (w.setRow g #[p, q, r, x, y, z])) :
    bodyPost Tryd.prog Tryd.f24 R .ret ac ((((((w.setCell ⟨g, 0, none⟩ p).setCell ⟨g, 1, none⟩ q).setCell ⟨g, 2, none⟩ r).setCell ⟨g, 3, none⟩ x).setCell ⟨g, 4, none⟩ y).setCell ⟨g, 5, none⟩ z) := by
  rw [set6 w g _ _ _ _ _ _ p q r x y z _ _ hg]
  exact bodyPost_ret (results_cell_row (fr := (0, 0)) rfl _ _ g 41 _ _ hp (setRow_heap _ _ _ _ _ _ hg) Tryd.underlying41 rfl size41) hd hR
theorem beginR_ok {T : List Tk} (F : EndT T) : (beginR T).2.1 < T.length ∧ ((beginR T).1 = 0 → 3 ≤ (beginR T).2.1) := by
  have hc := clauseR_ok F
  unfold beginR
  by_cases h : (clauseR T).1 = false
  · rw [if_pos h]
    refine ⟨hc.1, fun e => ?_⟩
    exfalso
    revert e
    show (if _ then 1 else 2) = 0 → False
    split <;> exact fun e => absurd e (by decide)
  · rw [if_neg h]
    have h3 := hc.2 (by cases hq : (clauseR T).1 <;> simp_all)
    have hl := hc.1
    rw [h3] at hl
    have hd := declR_ok F (T.length - 3) 3 [] (by omega) (by omega) (Nat.zero_le _)
    split
    · exact ⟨hd.2.1, fun _ => hd.1⟩
    · exact ⟨hd.2.1, fun _ => hd.1⟩
theorem parse_wrong {s : ByteArray} (h : (beginR (lexL s)).1 ≠ 0) : parseR s = .wrong (beginR (lexL s)).1 (tk (lexL s) (beginR (lexL s)).2.1).2.2 := by
  unfold parseR; rw [if_pos h]
theorem parse_build {s : ByteArray} (h : (beginR (lexL s)).1 = 0) {p : Nat} (hp : (conR s (frontR s) (tk (lexL s) 0).2.2).2 = p) : parseR s = .wrong 4 p := by
  unfold parseR; rw [if_neg (fun k => k h), hp, if_pos (by omega), Int.toNat_natCast]
theorem parse_emb {s : ByteArray} (h : (beginR (lexL s)).1 = 0) (hp : (conR s (frontR s) (tk (lexL s) 0).2.2).2 = -1) {p : Nat} {E : List ByteArray} (he : embGo (backR s) [] = (some p, E)) : parseR s = .wrong 5 p := by
  unfold parseR; rw [if_neg (fun k => k h), hp, if_neg (by decide), he]
theorem parse_ok {s : ByteArray} (h : (beginR (lexL s)).1 = 0) (hp : (conR s (frontR s) (tk (lexL s) 0).2.2).2 = -1) {E : List ByteArray} (he : embGo (backR s) [] = (none, E)) :
    parseR s = ⟨(tk (lexL s) 1).2.1, (beginR (lexL s)).2.2, (conR s (frontR s) (tk (lexL s) 0).2.2).1, E, 0, 0⟩ := by
  unfold parseR; rw [if_neg (fun k => k h), hp, if_neg (by decide), he]
theorem conR_at (s : ByteArray) (M : List Tk) (first : Nat) : (conR s M first).2 = -1 ∨ ∃ p : Nat, (conR s M first).2 = p := by
  unfold conR
  split
  · exact .inr ⟨_, rfl⟩
  · split <;> exact .inl rfl
theorem pre_size {x : ByteArray} (h : Lib.hasPrefix x.data.toList [47, 47] = true) : 2 ≤ x.size := by
  have h2 : x.size = x.data.toList.length := by simp
  rw [h2]
  cases hq : x.data.toList with
  | nil => rw [hq] at h; cases h
  | cons a l =>
    cases l with
    | nil => rw [hq] at h; simp [Lib.hasPrefix] at h
    | cons b l => simp
theorem notes_ok {s : ByteArray} (P : PreS s) : ∀ x ∈ notesR s, 2 ≤ x.2.1.size ∧ x.2.1.size ≤ 1048576 := fun x hx => by
  obtain ⟨h1, h2⟩ := List.mem_filter.1 hx
  unfold aloneB at h2
  rw [Bool.and_eq_true] at h2
  exact ⟨pre_size h2.1, (P.mp x h1).2⟩
theorem notes_len {s : ByteArray} (P : PreS s) : (notesR s).length ≤ 4194304 := Nat.le_trans (List.length_filter_le _ _) P.ml
theorem ret24d {R : Ending → World → Prop} {ac : Act} (w : World) (g : Nat) (a b c d e f p q r x y z : Value) (hg : w.heap[g]? = some (.cells #[a, b, c, d, e, f] 41 (0, 0)))
    (hp : ac.tmps.getD 2 undef = .pointer (some ⟨g, 0, none⟩)) (hd : ac.defers = []) (hR : R (.returned (.agg #[p, q, r, x, y, z])) (w.setRow g #[p, q, r, x, y, z]).drew) :
    bodyPost Tryd.prog Tryd.f24 R .ret ac ((((((w.setCell ⟨g, 0, none⟩ p).setCell ⟨g, 1, none⟩ q).setCell ⟨g, 2, none⟩ r).setCell ⟨g, 3, none⟩ x).setCell ⟨g, 4, none⟩ y).setCell ⟨g, 5, none⟩ z).drew := by
  rw [set6 w g _ _ _ _ _ _ p q r x y z _ _ hg]
  exact bodyPost_ret (results_cell_row (fr := (0, 0)) rfl _ _ g 41 _ _ hp (show (w.setRow g #[p, q, r, x, y, z]).drew.heap[g]? = _ from setRow_heap _ _ _ _ _ _ hg) Tryd.underlying41 rfl size41) hd hR
/-- A reader that was made anew. -/
theorem Rd.made {w : World} {v : Value} {T : List Tk} (h : LAt 3 tkV w v T) (h0 : 0 < T.length) : Rd w.heap.size T 0 [] (.slice none 0 0) (w.alloc (.cells #[v, .int .i64 0, .slice none 0 0] 59)) := by
  obtain ⟨p, cap, rfl, hp⟩ := h.shape
  obtain ⟨g, off, rfl⟩ := hp h0
  have hx := tk_some h0
  obtain ⟨hg, _⟩ := h.load hx
  exact ⟨g, off, cap, heap_alloc_new _ _, hg, h.below ((Below.refl _ _).alloc (Nat.le_refl _) _), ⟨rfl, .inl ⟨rfl, rfl⟩⟩⟩
theorem LAt.rowFar {w : World} {n c : Nat} {cs : Array Value} {X : Type} {fl : X → List Value} {v : Value} {l : List X} (h : LAt n fl w v l) (hn : ∀ g, v.ownBlock = some g → g ≠ c) : LAt n fl (w.setRow c cs).drew v l := by
  refine ⟨h.1, ?_⟩
  rcases h.2 with h | ⟨b, off, cap, rfl, h2, h3, h4, h5⟩
  · exact .inl h
  · have hb : ((w.setRow c cs).drew).heap[b]? = w.heap[b]? := by
      show (w.heap.modify c _)[b]? = _
      rw [Array.getElem?_modify, if_neg (fun e => hn b rfl e.symm)]
    refine .inr ⟨b, off, cap, rfl, ?_, h3, h4, fun j x hx => ?_⟩
    · show b < (w.heap.modify c _).size
      rw [Array.size_modify]; exact h2
    · have := h5 j x hx
      rw [← this]
      simp only [World.cell?, hb]
/-- A header in memory that was made: its lists lie apart, and apart from what was there. -/
def HNew (B : Nat) (w : World) (v : Value) (h : Hdr) : Prop := ∃ iv ev, v = .agg #[.string h.name, iv, .string h.build, ev, .int .i64 h.fault, .int .i64 h.at_] ∧ w.ownsRow B 44 3 iv h.imp.length (LF imV h.imp) ∧ LAt 1 strV w ev h.emb ∧
  (∀ g, ev.ownBlock = some g → B ≤ g) ∧ (∀ g, iv.ownBlock = some g → ev.ownBlock ≠ some g)
theorem HNew.at_ {B : Nat} {w : World} {v : Value} {h : Hdr} (H : HNew B w v h) : HAt w v h := by
  obtain ⟨iv, ev, h1, h2, h3, _, _⟩ := H
  exact ⟨iv, ev, h1, LAt.own (fun y _ => imV_len y) h2, h3⟩
theorem own_rowFar {w : World} {B B' c : Nat} {cs : Array Value} {e : TypeId} {n : Nat} {v : Value} {k : Nat} {xs : List Value} (h : w.ownsRow B e n v k xs) (hB : B' ≤ B) (hc : c < B) : (w.setRow c cs).drew.ownsRow B' e n v k xs := by
  refine ⟨h.1, ?_⟩
  rcases h.2 with h | ⟨g, cap, cur, hv, hb, hg, r⟩
  · exact .inl h
  · refine .inr ⟨g, cap, cur, hv, Nat.le_trans hB hb, ?_, r⟩
    show (w.heap.modify c _)[g]? = _
    rw [Array.getElem?_modify, if_neg (by omega)]
    exact hg
theorem wrong_new {B : Nat} {w : World} (f a : Nat) : HNew B w (.agg #[.string ⟨#[]⟩, .slice none 0 0, .string ⟨#[]⟩, .slice none 0 0, .int .i64 f, .int .i64 a]) (.wrong f a) :=
  ⟨_, _, rfl, ⟨rfl, .inl ⟨rfl, rfl⟩⟩, ⟨fun x hx => (by cases hx), .inl ⟨_, _, rfl, rfl⟩⟩, fun g hg => (by cases hg), fun g hg => (by cases hg)⟩
theorem zero_lat {w : World} {n : Nat} {X : Type} {fl : X → List Value} : LAt n fl w (.slice none 0 0) ([] : List X) := ⟨fun x hx => (by cases hx), .inl ⟨_, _, rfl, rfl⟩⟩
set_option maxRecDepth 100000 in
set_option maxHeartbeats 4000000 in
theorem parse_new (HANY : AnyC) (HIX : IdxC) (s : ByteArray) (w : World) (P : PreS s) (hs : s.size ≤ 1048576) (hTab : Tabs w) :
    Calls Tryd.prog 24 #[.string s] w fun e w' => ∃ v, e = .returned v ∧ HNew w.heap.size w' v (parseR s) ∧ Below w.heap.size w w' := by
  have HLX := Lib.hid (fun w1 (h1 : Below w.heap.size w w1) => lex_any s w1 hs (tabs_below hTab h1))
  have HNT := Lib.hid (fun w1 (h1 : Below w.heap.size w w1) => notes_any s w1 hs (tabs_below hTab h1))
  have HP := Lib.hid P
  have hnew := heap_alloc_new w (.cells #[.string ⟨#[]⟩, .slice none 0 0, .string ⟨#[]⟩, .slice none 0 0, .int .i64 0, .int .i64 0] 41)
  have hBa := (Below.refl w.heap.size w).alloc (Nat.le_refl _) (.cells #[.string ⟨#[]⟩, .slice none 0 0, .string ⟨#[]⟩, .slice none 0 0, .int .i64 0, .int .i64 0] 41)
  have Hnew := Lib.hid hnew
  have HBa := Lib.hid hBa
  clear hnew hBa hTab P
  go_enter Tryd.func24, Tryd.ntmps24
  go_wp2_with fail
  generalize w.alloc (.cells #[.string ⟨#[]⟩, .slice none 0 0, .string ⟨#[]⟩, .slice none 0 0, .int .i64 0, .int .i64 0] 41) = w1 at *
  refine (HLX.out _ HBa.out).mono ?_
  rintro r w2 ⟨v, rfl, hv, hB⟩
  have hlt0 := lt_of_block Hnew.out
  have Hn2 := Lib.hid ((hB.block w.heap.size hlt0).trans Hnew.out)
  have HB2 := Lib.hid (HBa.out.trans (hB.mono HBa.out.size))
  have hpos := HP.out.e.pos
  obtain ⟨pp, cap0, rfl, hp⟩ := hv.shape
  obtain ⟨g0, off0, rfl⟩ := hp hpos
  have hbox := Rd.made hv hpos
  obtain ⟨vt, hvt⟩ : ∃ vt, vt = Value.slice (some ⟨g0, off0, none⟩) (lexL s).length cap0 := ⟨_, rfl⟩
  rw [← hvt] at hbox
  have HRd := Lib.hid hbox
  have hba := (Below.refl w2.heap.size w2).alloc (Nat.le_refl _) (.cells #[vt, .int .i64 0, .slice none 0 0] 59)
  have HB3 := Lib.hid (HB2.out.trans (hba.mono HB2.out.size))
  have Hn3 := Lib.hid ((hba.block w.heap.size (lt_of_block Hn2.out)).trans Hn2.out)
  have hltb := lt_of_block Hn2.out
  subst hvt
  clear hv hB hbox hba Hnew HBa Hn2 HB2 hlt0 hp
  go_upto_region 2 with fail
  generalize w2.alloc (.cells #[.slice (some ⟨g0, off0, none⟩) (lexL s).length cap0, .int .i64 0, .slice none 0 0] 59) = w3 at *
  generalize w2.heap.size = b at *
  have HBG := Lib.hid (begin_any HANY b (lexL s) (.slice none 0 0) w3 HP.out.e HRd.out (Nat.le_trans HP.out.tl (by decide)))
  have hbo := beginR_ok HP.out.e
  have hbl := Nat.le_of_lt HRd.out.lt
  go_wp2_with fail
  refine HBG.out.mono ?_
  rintro r w4 ⟨rfl, ⟨jv, h4⟩, hB⟩
  have HB4 := Lib.hid (HB3.out.trans (hB.mono (Nat.le_of_lt hltb)))
  have Hn4 := Lib.hid ((hB.block w.heap.size hltb).trans Hn3.out)
  have H4 := Lib.hid h4
  have HN := Lib.hid (fun w1 (h1 : Rd b (lexL s) (beginR (lexL s)).2.1 (beginR (lexL s)).2.2 jv w1) => now_any b (lexL s) _ _ jv w1 _ h1 (tk_some hbo.1))
  obtain ⟨f, hf⟩ : ∃ f, (beginR (lexL s)).1 = f := ⟨_, rfl⟩
  have Hf := Lib.hid hf
  have hj3 := hbo.2
  rw [hf] at hj3 ⊢
  have hke : ((f : Int) == 0) = decide (f = 0) := int_eqb f 0
  clear h4 hB HB3 Hn3 HRd HBG hbl
  by_cases hf0 : f = 0
  case neg =>
    have HQ := Lib.hid (parse_wrong (s := s) (by rw [hf]; exact hf0))
    rw [hf] at HQ
    rw [decide_eq_false hf0] at hke
    have hkn : ((f : Int) != 0) = true := by rw [bne, hke]; rfl
    obtain ⟨x, hx⟩ : ∃ x, tk (lexL s) (beginR (lexL s)).2.1 = x := ⟨_, rfl⟩
    rw [hx] at HN HQ
    obtain ⟨k0, y0, p0⟩ := x
    have hfl := fld2 (.int .i64 k0) (.string y0) (.int .i64 p0)
    unfold tkA at HN
    clear hx hf hf0 hj3 hbo
    go_wp2_with fail
    refine (HN.out _ H4.out).mono ?_
    rintro r w5 ⟨rfl, hB⟩
    have HB5 := Lib.hid (HB4.out.trans (hB.mono HB4.out.size))
    have hn5 := (hB.block w.heap.size (lt_of_block Hn4.out)).trans Hn4.out
    have Hn5 := Lib.hid hn5
    have c0 := block_cell hn5 0
    have fz0 := block_free hn5 0
    have c1 := block_cell hn5 1
    have fz1 := block_free hn5 1
    have c2 := block_cell hn5 2
    have fz2 := block_free hn5 2
    have c3 := block_cell hn5 3
    have fz3 := block_free hn5 3
    have c4 := block_cell hn5 4
    have fz4 := block_free hn5 4
    have c5 := block_cell hn5 5
    have fz5 := block_free hn5 5
    clear hB hn5
    go_wp2_with fail
    refine ret24 w5 w.heap.size _ _ _ _ _ _ _ _ _ _ _ _ Hn5.out ?_ ?_ ?_
    · rfl
    · rfl
    rw [HQ.out]
    exact ⟨_, rfl, wrong_new _ _, below6 HB5.out Hn5.out (Nat.le_refl _) _ _ _ _ _ _⟩
  rw [decide_eq_true hf0] at hke
  have hkn : ((f : Int) != 0) = false := by rw [bne, hke]; rfl
  have hf00 := hf.trans hf0
  have hj3' := hj3 hf0
  have h0T : 0 < (lexL s).length := hpos
  have h1T : 1 < (lexL s).length := by have := hbo.1; omega
  have h2T : 2 < (lexL s).length := by have := hbo.1; omega
  clear hj3
  have HAL := Lib.hid (fun v1 w1 (hv : LAt 3 tkV w1 v1 (lexM s)) => alone_any s (lexM s) v1 w1 hv HP.out.ml hs (fun x hx => (HP.out.mp x hx).1))
  go_wp2_with fail
  refine (HNT.out _ HB4.out).mono ?_
  rintro r w5 ⟨v5, rfl, hv5, hB⟩
  have HV5 := Lib.hid hv5
  have HB5 := Lib.hid (HB4.out.trans (hB.mono HB4.out.size))
  have H5 := Lib.hid (H4.out.below hB)
  have Hn5 := Lib.hid ((hB.block w.heap.size (lt_of_block Hn4.out)).trans Hn4.out)
  clear hv5 hB H4 HB4 Hn4 HNT HLX
  go_wp2_with fail
  refine (HAL.out _ _ HV5.out).mono ?_
  rintro r w6 ⟨v6, rfl, hv6, hB⟩
  have HV6 := Lib.hid (show LAt 3 tkV w6 v6 (notesR s) from hv6)
  have HB6 := Lib.hid (HB5.out.trans (hB.mono HB5.out.size))
  have H6 := Lib.hid (H5.out.below hB)
  have Hn6 := Lib.hid ((hB.block w.heap.size (lt_of_block Hn5.out)).trans Hn5.out)
  clear hv6 hB H5 HB5 Hn5 HAL HV5
  go_wp2_with fail
  obtain ⟨g, off, cap, hb6, hg6, hT6, hI6⟩ := H6.out.f
  obtain ⟨hgl, _, _, ea⟩ := hT6.cells (i := 0) (k := (tk (lexL s) 0).1) (x := (tk (lexL s) 0).2.1) (p := (tk (lexL s) 0).2.2) (tk_some h0T)
  obtain ⟨_, _, _, ec⟩ := hT6.cells (i := 2) (k := (tk (lexL s) 2).1) (x := (tk (lexL s) 2).2.1) (p := (tk (lexL s) 2).2.2) (tk_some h2T)
  obtain ⟨_, _, eb, _⟩ := hT6.cells (i := 1) (k := (tk (lexL s) 1).1) (x := (tk (lexL s) 1).2.1) (p := (tk (lexL s) 1).2.2) (tk_some h1T)
  have hblt := H6.out.lt
  have L0 : ∀ w', Below w6.heap.size w6 w' → (loadVar 23 ⟨b, 0, none⟩).run Tryd.prog w' = .ok (.slice (some ⟨g, off, none⟩) (lexL s).length cap) w' := fun w' h => by
    have hbx := (h.block b hblt).trans hb6
    simp [go_sem, block_cell hbx]
  have La : ∀ w', Below w6.heap.size w6 w' → (loadVar 3 ⟨g, off + 2, none⟩).run Tryd.prog w' = .ok (.int .i64 ((tk (lexL s) 0).2.2 : Nat)) w' := fun w' h => by
    have hc := (h.cell (p := ⟨g, off + 2, none⟩) hgl).trans (by simpa using ea)
    simp [go_sem, hc]
  have Lc : ∀ w', Below w6.heap.size w6 w' → (loadVar 3 ⟨g, off + 6 + 2, none⟩).run Tryd.prog w' = .ok (.int .i64 ((tk (lexL s) 2).2.2 : Nat)) w' := fun w' h => by
    have hc := (h.cell (p := ⟨g, off + 6 + 2, none⟩) hgl).trans (by simpa using ec)
    simp [go_sem, hc]
  have LN : ∀ w', Below w6.heap.size w6 w' → Calls Tryd.prog 32 #[.pointer (some ⟨b, 0, none⟩)] w' fun e w2 => e = .returned (tkA (tk (lexL s) (beginR (lexL s)).2.1)) ∧ Below w6.heap.size w6 w2 := fun w' h =>
    (HN.out w' (H6.out.below h)).mono (fun e w2 hh => ⟨hh.1, h.trans (hh.2.mono h.size)⟩)
  have HL0 := Lib.hid L0
  have HLa := Lib.hid La
  have HLc := Lib.hid Lc
  have HLN := Lib.hid LN
  clear L0 La Lc LN ea ec
  have hfl := fld2 (.int .i64 (tk (lexL s) (beginR (lexL s)).2.1).1) (.string (tk (lexL s) (beginR (lexL s)).2.1).2.1) (.int .i64 (tk (lexL s) (beginR (lexL s)).2.1).2.2)
  unfold tkA at HLN
  have hti0 : (0 : Int) < ((lexL s).length : Int) := by omega
  have hti2 : (2 : Int) < ((lexL s).length : Int) := by omega
  refine wp_region_class (Below w6.heap.size w6) (by kernel_rfl) (by kernel_rfl) (Below.refl _ _).drew ?_
  repeat (go_big_quiet_step (first | (intro hh; with_reducible exact HLN.out _ hh) | (intro _; rfl)))
  refine wpQuiet_load_at rfl 23 (.tmp 31) rfl ⟨b, 0, none⟩ rfl (.slice (some ⟨g, off, none⟩) (lexL s).length cap) (HL0.out) ?_
  simp only [Act.put, List.setIfInBounds_toArray, List.set_cons_succ, List.set_cons_zero]
  repeat (go_big_quiet_step (first | (intro hh; with_reducible exact HLN.out _ hh) | (intro _; rfl)))
  refine wpQuiet_load_at rfl 3 (.tmp 34) rfl ⟨g, off + 2, none⟩ rfl (.int .i64 ((tk (lexL s) 0).2.2 : Nat)) (HLa.out) ?_
  simp only [Act.put, List.setIfInBounds_toArray, List.set_cons_succ, List.set_cons_zero]
  repeat (go_big_quiet_step (first | (intro hh; with_reducible exact HLN.out _ hh) | (intro _; rfl)))
  refine wpQuiet_load_at rfl 23 (.tmp 38) rfl ⟨b, 0, none⟩ rfl (.slice (some ⟨g, off, none⟩) (lexL s).length cap) (HL0.out) ?_
  simp only [Act.put, List.setIfInBounds_toArray, List.set_cons_succ, List.set_cons_zero]
  repeat (go_big_quiet_step (first | (intro hh; with_reducible exact HLN.out _ hh) | (intro _; rfl)))
  refine wpQuiet_load_at rfl 3 (.tmp 41) rfl ⟨g, off + 6 + 2, none⟩ rfl (.int .i64 ((tk (lexL s) 2).2.2 : Nat)) (HLc.out) ?_
  simp only [Act.put, List.setIfInBounds_toArray, List.set_cons_succ, List.set_cons_zero]
  repeat (go_big_quiet_step (first | (intro hh; with_reducible exact HLN.out _ hh) | (intro _; rfl)))
  refine wpQuiet_nil ?_
  intro w7 hB
  have HB7 := Lib.hid (HB6.out.trans (hB.mono HB6.out.size))
  have H7 := Lib.hid (H6.out.below hB)
  have Hn7 := Lib.hid ((hB.block w.heap.size (lt_of_block Hn6.out)).trans Hn6.out)
  have HV7 := Lib.hid (HV6.out.below hB)
  have Hcl := Lib.hid eb
  clear hB HB6 H6 Hn6 HV6 HL0 HLa HLc HLN hfl hti0 hti2 hb6 hT6 hI6 hgl hblt eb HN
  have hP := notes_ok HP.out
  have hL := notes_len HP.out
  have HPA := Lib.hid (fun fr up w1 (hv : LAt 3 tkV w1 v6 (notesR s)) => part_any (notesR s) v6 fr up w1 hv hL)
  have HCN := Lib.hid (fun v1 w1 (hv : LAt 3 tkV w1 v1 (frontR s)) => con_any s (frontR s) v1 (tk (lexL s) 0).2.2 w1 hv (Nat.le_trans (List.length_filter_le _ _) hL) (fun x hx => hP x (List.mem_filter.1 hx).1) hs (HP.out.tp _ (List.mem_of_getElem? (tk_some h0T))))
  have HEM := Lib.hid (fun v1 w1 (hv : LAt 3 tkV w1 v1 (backR s)) => emb_any HIX (backR s) v1 w1 hv (Nat.le_trans (List.length_filter_le _ _) hL) (fun x hx => hP x (List.mem_filter.1 hx).1))
  have hca := conR_at s (frontR s) (tk (lexL s) 0).2.2
  have HQ4 := Lib.hid (fun p hp => parse_build (s := s) hf00 (p := p) hp)
  have HQ5 := Lib.hid (fun hp p E he => parse_emb (s := s) hf00 hp (p := p) (E := E) he)
  have HQ6 := Lib.hid (fun hp E he => parse_ok (s := s) hf00 hp (E := E) he)
  generalize conR s (frontR s) (tk (lexL s) 0).2.2 = cr at *
  obtain ⟨bd, ca⟩ := cr
  clear hP hL
  go_wp2_with fail
  refine (HPA.out (-1) ((tk (lexL s) 0).2.2 : Nat) _ HV7.out).mono ?_
  rintro r w8 ⟨v8, rfl, hv8, hB⟩
  have HV8 := Lib.hid (show LAt 3 tkV w8 v8 (frontR s) from hv8)
  have HB8 := Lib.hid (HB7.out.trans (hB.mono HB7.out.size))
  have H8 := Lib.hid (H7.out.below hB)
  have Hn8 := Lib.hid ((hB.block w.heap.size (lt_of_block Hn7.out)).trans Hn7.out)
  have HN8 := Lib.hid (HV7.out.below hB)
  clear hv8 hB HB7 H7 Hn7 HV7
  go_wp2_with fail
  refine (HCN.out _ _ HV8.out).mono ?_
  rintro r w9 ⟨rfl, hB⟩
  have HB9 := Lib.hid (HB8.out.trans (hB.mono HB8.out.size))
  have H9 := Lib.hid (H8.out.below hB)
  have hn9 := (hB.block w.heap.size (lt_of_block Hn8.out)).trans Hn8.out
  have Hn9 := Lib.hid hn9
  have HN9 := Lib.hid (HN8.out.below hB)
  clear hB HB8 H8 Hn8 HN8 HV8 HCN
  rcases hca with hca | ⟨p, hca⟩
  case inr =>
    have hca2 : ca = (p : Int) := hca
    subst hca2
    have HQ := Lib.hid (HQ4.out p rfl)
    have hp0 : (0 : Int) ≤ (p : Int) := by omega
    have c0 := block_cell hn9 0
    have fz0 := block_free hn9 0
    have c1 := block_cell hn9 1
    have fz1 := block_free hn9 1
    have c2 := block_cell hn9 2
    have fz2 := block_free hn9 2
    have c3 := block_cell hn9 3
    have fz3 := block_free hn9 3
    have c4 := block_cell hn9 4
    have fz4 := block_free hn9 4
    have c5 := block_cell hn9 5
    have fz5 := block_free hn9 5
    clear HQ4 HQ5 HQ6 hn9 hca
    go_wp2_with fail
    refine ret24 w9 w.heap.size _ _ _ _ _ _ _ _ _ _ _ _ Hn9.out ?_ ?_ ?_
    · rfl
    · rfl
    rw [HQ.out]
    exact ⟨_, rfl, wrong_new _ _, below6 HB9.out Hn9.out (Nat.le_refl _) _ _ _ _ _ _⟩
  have hca2 : ca = -1 := hca
  subst hca2
  clear hca hn9 HQ4
  go_wp2_with fail
  refine (HPA.out ((tk (lexL s) 2).2.2 : Nat) ((tk (lexL s) (beginR (lexL s)).2.1).2.2 : Nat) _ HN9.out).mono ?_
  rintro r w10 ⟨v10, rfl, hv10, hB⟩
  have HV10 := Lib.hid (show LAt 3 tkV w10 v10 (backR s) from hv10)
  have HB10 := Lib.hid (HB9.out.trans (hB.mono HB9.out.size))
  have H10 := Lib.hid (H9.out.below hB)
  have Hn10 := Lib.hid ((hB.block w.heap.size (lt_of_block Hn9.out)).trans Hn9.out)
  clear hv10 hB HB9 H9 Hn9 HN9
  go_wp2_with fail
  refine (HEM.out _ _ HV10.out).mono ?_
  rintro r w11 ⟨hem, hB⟩
  have H10l : w.heap.size < w10.heap.size := lt_of_block Hn10.out
  have HJ := Lib.hid (show ∀ g, jv.ownBlock = some g → g < w10.heap.size from by
    obtain ⟨_, _, _, _, _, _, hj⟩ := H10.out.f
    exact fun g hg => (hj.lt g hg).2)
  have HB11 := Lib.hid (HB10.out.trans (hB.mono HB10.out.size))
  have H11 := Lib.hid (H10.out.below hB)
  have hn11 := (hB.block w.heap.size (lt_of_block Hn10.out)).trans Hn10.out
  have Hn11 := Lib.hid hn11
  have c0 := block_cell hn11 0
  have fz0 := block_free hn11 0
  have c1 := block_cell hn11 1
  have fz1 := block_free hn11 1
  have c2 := block_cell hn11 2
  have fz2 := block_free hn11 2
  have c3 := block_cell hn11 3
  have fz3 := block_free hn11 3
  have c4 := block_cell hn11 4
  have fz4 := block_free hn11 4
  have c5 := block_cell hn11 5
  have fz5 := block_free hn11 5
  clear hB HB10 H10 Hn10 HV10 HEM hn11
  rcases hem with ⟨E, ve, he, rfl, hve, hvb⟩ | ⟨p, E, he, rfl⟩
  case inr =>
    have HQ := Lib.hid (HQ5.out (by simp) p E he)
    have hp0 : (0 : Int) ≤ (p : Int) := by omega
    clear HQ5 HQ6 he
    go_wp2_with fail
    refine ret24 w11 w.heap.size _ _ _ _ _ _ _ _ _ _ _ _ Hn11.out ?_ ?_ ?_
    · rfl
    · rfl
    rw [HQ.out]
    exact ⟨_, rfl, wrong_new _ _, below6 HB11.out Hn11.out (Nat.le_refl _) _ _ _ _ _ _⟩
  have HQ := Lib.hid (HQ6.out (by simp) E he)
  have HVE := Lib.hid hve
  have hbw := Nat.lt_of_lt_of_le hltb (Nat.le_refl _)
  have HVW := Lib.hid (show ∀ g, ve.ownBlock = some g → w.heap.size ≤ g ∧ w10.heap.size ≤ g from fun g hg => by
    have h1 := hvb g hg
    have h2 := H10l
    omega)
  have HVB := Lib.hid (show ∀ g, ve.ownBlock = some g → g ≠ w.heap.size from fun g hg => by
    have h1 := hvb g hg
    have h2 := H10l
    omega)
  obtain ⟨pe, ne, ce, rfl⟩ : ∃ p n c, ve = .slice p n c := by
    rcases hve.2 with ⟨p, cap, hv, _⟩ | ⟨b', off', cap', hv, _⟩
    · exact ⟨_, _, _, hv⟩
    · exact ⟨_, _, _, hv⟩
  obtain ⟨g', off', cap', hb11, hg11, hT11, hI11⟩ := H11.out.f
  obtain ⟨pj, cj, rfl⟩ := own_slice' hI11
  have hcb0 := block_cell hb11 0
  have hcb2 := block_cell hb11 2
  obtain ⟨_, _, eb, _⟩ := hT11.cells (i := 1) (k := (tk (lexL s) 1).1) (x := (tk (lexL s) 1).2.1) (p := (tk (lexL s) 1).2.2) (tk_some h1T)
  have hct : w11.cell? ⟨g', off' + 3 + 1, none⟩ = some (.string (tk (lexL s) 1).2.1) := by simpa using eb
  have hti1 : (1 : Int) < ((lexL s).length : Int) := by omega
  have hne : b ≠ w.heap.size := by omega
  have HI := Lib.hid hI11
  have HDV := Lib.hid (show ∀ g, (Value.slice pj (beginR (lexL s)).2.2.length cj).ownBlock = some g → (Value.slice pe ne ce).ownBlock ≠ some g from fun g hg h2 => by
    have h1 := HJ.out g hg
    have h3 := HVW.out g h2
    omega)
  clear HQ5 HQ6 he hve hvb hb11 hT11 hI11 eb
  go_wp2_with fail
  go_region
  all_goals (try go_wp2_with fail)
  refine ret24d w11 w.heap.size _ _ _ _ _ _ _ _ _ _ _ _ Hn11.out ?_ ?_ ?_
  · rfl
  · rfl
  rw [HQ.out]
  exact ⟨_, rfl, ⟨_, _, rfl, own_rowFar HI.out (by omega) (by omega), HVE.out.rowFar HVB.out, fun g hg => (HVW.out g hg).1, HDV.out⟩, (below6 HB11.out Hn11.out (Nat.le_refl _) _ _ _ _ _ _).drew⟩
theorem parse_any (HANY : AnyC) (HIX : IdxC) (s : ByteArray) (w : World) (P : PreS s) (hs : s.size ≤ 1048576) (hTab : Tabs w) :
    Calls Tryd.prog 24 #[.string s] w fun e w' => ∃ v, e = .returned v ∧ HAt w' v (parseR s) ∧ Below w.heap.size w w' :=
  (parse_new HANY HIX s w P hs hTab).mono (fun e w' ⟨v, h1, h2, h3⟩ => ⟨v, h1, h2.at_, h3⟩)
end Go.Proofs.YtejogobhnbjpdaaDoor
namespace Go.Proofs.YtejogobhnbjpdaaDoor
set_option linter.unusedVariables false
set_option linter.unusedSimpArgs false
open Go.ChangeShapes Go.WideShapes Go.ChangeAt Go.RowKit

theorem str_two {s : ByteArray} {q e : Nat} (hq : q < s.size) (h : thing s q = .tok 4 e) : q + 2 ≤ e ∧ e ≤ s.size := by
  have hc := thing_eq s q
  rw [h] at hc
  split at hc
  · cases hc
  split at hc
  · cases hc
  split at hc
  · cases hl : lineR s q <;> (rw [hl] at hc; cases hc)
  split at hc
  · cases hl : closedR s [42, 47] q (q + 2) <;> (rw [hl] at hc; cases hc)
  split at hc
  · injection hc with h1 _; exact absurd h1 (by decide)
  split at hc
  · injection hc with h1 _; exact absurd h1 (by decide)
  split at hc
  · cases hl : quotR s 39 q (q + 1) false with
    | inl f => rw [hl] at hc; cases hc
    | inr e2 => rw [hl] at hc; injection hc with h1 _; exact absurd h1 (by decide)
  split at hc
  · cases hl : quotR s 34 q (q + 1) false with
    | inl f => rw [hl] at hc; cases hc
    | inr e2 =>
      rw [hl] at hc
      injection hc with _ h2
      have := (quot_ge s 34 q (s.size - (q + 1)) (q + 1) false (Nat.le_refl _)).1 e2 hl
      omega
  split at hc
  · cases hl : closedR s [96] q (q + 1) with
    | inl f => rw [hl] at hc; cases hc
    | inr e2 =>
      rw [hl] at hc
      injection hc with _ h2
      have := (closed_ge s [96] q (s.size - (q + 1)) (q + 1) (Nat.le_refl _)).1 e2 hl
      simp only [List.length_cons, List.length_nil] at this
      omega
  split at hc
  · injection hc with h1 _; exact absurd h1 (by decide)
  split at hc
  · cases hc
  · injection hc with h1 _; exact absurd h1 (by decide)
/-- A token of a text: where it lies, how long it is; a string has its quotes. -/
structure TkG (s : ByteArray) (t : Tk) : Prop where
  st : t.1 = 4 → 2 ≤ t.2.1.size
  at_ : t.2.2 ≤ s.size
  sz : t.2.1.size ≤ s.size
theorem tkg0 {s : ByteArray} {k p : Nat} (hk : k ≠ 4) (hp : p ≤ s.size) : TkG s (k, ⟨#[]⟩, p) := ⟨fun h => absurd h hk, hp, Nat.zero_le _⟩
theorem snoc_g {s : ByteArray} {l : List Tk} (h : ∀ t ∈ l, TkG s t) {x : Tk} (hx : TkG s x) : ∀ t ∈ l ++ [x], TkG s t := fun u hu => by
  rcases List.mem_append.1 hu with h1 | h1
  · exact h u h1
  · rw [List.mem_singleton.1 h1]; exact hx
theorem feed_g {s : ByteArray} {l : List Tk} (h : ∀ t ∈ l, TkG s t) {q : Nat} (hq : q ≤ s.size) : ∀ t ∈ feedL l q, TkG s t := by
  unfold feedL
  cases hl : l.getLast? with
  | none => exact h
  | some t =>
    show ∀ u ∈ (if endsB t = true then l ++ [(6, (⟨#[]⟩ : ByteArray), q)] else l), TkG s u
    split
    · exact snoc_g h (tkg0 (by decide) hq)
    · exact h
theorem lexT_g {s : ByteArray} : ∀ q l m, q ≤ s.size → (∀ t ∈ l, TkG s t) → (∀ t ∈ m, TkG s t) → (∀ t ∈ (lexT s q l m).1, TkG s t) ∧ (∀ t ∈ (lexT s q l m).2, TkG s t) := by
  have hex : ∀ q e, (s.extract q e).size ≤ s.size := fun q e => ext_size _ _ _
  refine lex_ind s _ ?_ ?_ ?_
  · intro q l m h hq hl hm
    rw [lexT_out h]
    exact ⟨snoc_g (feed_g hl (Nat.le_refl _)) (tkg0 (by decide) (Nat.le_refl _)), hm⟩
  · intro q l m f h ht hq hl hm
    rw [lexT_bad h ht]
    have := (thing_ends h).1 f ht
    exact ⟨snoc_g hl (tkg0 (by decide) (by omega)), hm⟩
  · intro q l m h hok ih hq hl hm
    rw [lexT_step h hok]
    have hen := ((thing_ends h).2 hok).2.1
    refine ih hen ?_ ?_
    · cases ht : thing s q with
      | bad f => rw [ht] at hok; cases hok
      | lf => exact feed_g hl hq
      | blank => exact hl
      | note e =>
        show ∀ u ∈ (if hasLF s q e = true then feedL l q else l), TkG s u
        split
        · exact feed_g hl hq
        · exact hl
      | tok k e =>
        refine snoc_g hl ⟨fun h4 => ?_, hq, hex q e⟩
        have h4 : k = 4 := h4
        subst h4
        have h2 := str_two h ht
        show 2 ≤ (s.extract q e).size
        rw [ByteArray.size_extract]
        omega
    · cases ht : thing s q with
      | note e => exact snoc_g hm ⟨fun h4 => absurd (show (0 : Nat) = 4 from h4) (by decide), hq, hex q e⟩
      | _ => exact hm
theorem lexL_g (s : ByteArray) : (∀ t ∈ lexL s, TkG s t) ∧ (∀ t ∈ lexM s, TkG s t) := lexT_g _ _ _ (skN_le s) (fun _ h => by cases h) (fun _ h => by cases h)
theorem lexL_last (s : ByteArray) : ∃ x t, lexL s = x ++ [t] ∧ (t.1 = 7 ∨ t.1 = 0) := by
  obtain ⟨x, y, t, F, h1, h2, _, _, h5, h6⟩ := (covers_ok s (skN s) [] [] (skN_le s) (skN s) (Nat.le_refl _) .nil).f
  refine ⟨x, t, by unfold lexL; rw [h1]; rfl, ?_⟩
  rcases h6 with h | h
  · exact .inl h.1
  · exact .inr h.1
theorem pre_of (s : ByteArray) (hs : s.size ≤ 1048576) : PreS s := by
  obtain ⟨x, t, hL, ht⟩ := lexL_last s
  have hg := lexL_g s
  have hlen := lexL_len s
  refine ⟨⟨?_, ?_, ?_⟩, by omega, by omega, fun u hu => (hg.1 u hu).at_, fun u hu => ⟨(hg.2 u hu).at_, Nat.le_trans (hg.2 u hu).sz hs⟩⟩
  · rw [hL]; simp
  · intro i u hu h0 h7
    rw [hL] at hu ⊢
    rw [List.length_append, List.length_singleton]
    rcases Nat.lt_or_ge i x.length with hi | hi
    · omega
    · exfalso
      rw [List.getElem?_append_right hi] at hu
      have h1 := (List.getElem?_eq_some_iff.1 hu).1
      have h2 : i - x.length = 0 := by simp at h1; omega
      rw [h2] at hu
      have : t = u := by simpa using hu
      subst this
      rcases ht with h | h
      · exact h7 h
      · exact h0 h
  · intro i u hu h4
    have h := hg.1 u (List.mem_of_getElem? hu)
    exact ⟨h.st h4, Nat.le_trans h.sz hs⟩
end Go.Proofs.YtejogobhnbjpdaaDoor
namespace Go.Proofs.YtejogobhnbjpdaaDoor
set_option linter.unusedVariables false
set_option linter.unusedSimpArgs false
open Go.ChangeShapes Go.WideShapes Go.ChangeAt Go.RowKit

theorem byt_atP (s : ByteArray) (j : Nat) (h : j < s.size) : (s[j]'h).toNat = byt s j := by unfold byt; rw [get_is s j h]
/-- A letter or a digit. -/
def alnum (c : Nat) : Bool := decide (97 ≤ c ∧ c ≤ 122) || decide (65 ≤ c ∧ c ≤ 90) || decide (48 ≤ c ∧ c ≤ 57)
def plainP (s : ByteArray) : Prop := (∀ i, i < s.size → alnum (byt s i) = true) ∧ s ≠ ⟨#[]⟩ ∧ s.size ≤ 100
def PlainEnd (s : ByteArray) (w : World) (e : Ending) (w' : World) : Prop := (∃ b, e = .returned (.bool b) ∧ (b = true ↔ plainP s)) ∧ w = w'
set_option maxRecDepth 100000 in
set_option maxHeartbeats 2000000 in
theorem plain_any (s : ByteArray) (w : World) (hs : s.size ≤ 140737488351232) : Calls Tryd.prog 23 #[.string s] w (PlainEnd s w) := by
  go_enter Tryd.func23, Tryd.ntmps23
  go_wp2_with fail
  go_loopg [3] s.size (fun g iv wr => ∃ k : Nat, k + g = s.size ∧ iv = .int .i64 k ∧ Hid (∀ i, i < k → alnum (byt s i) = true) ∧ wr = w)
  case atStart => exact ⟨0, by omega, rfl, Lib.hid (fun i h => absurd h (Nat.not_lt_zero _)), rfl⟩
  case round =>
    obtain ⟨k, hkg, rfl, HA, rfl⟩ := hrel
    by_cases hk : k < s.size
    case neg =>
      have hkI : ¬ (k : Int) < (s.size : Int) := by omega
      have HA2 := Lib.hid (show ∀ i, i < s.size → alnum (byt s i) = true from fun i hi => HA.out i (by omega))
      have hpe : (s.toList == ([] : List UInt8)) = decide (s = ⟨#[]⟩) := str_lit s #[]
      by_cases h0 : s = ⟨#[]⟩
      · rw [decide_eq_true h0] at hpe
        have hpn : (s.toList != ([] : List UInt8)) = false := by rw [bne, hpe]; rfl
        have HF := Lib.hid (show ¬ plainP s from fun h => h.2.1 h0)
        clear h0
        go_wp2_with fail
        go_ret
        exact ⟨⟨false, rfl, fun h => (by cases h), fun h => absurd h HF.out⟩, rfl⟩
      rw [decide_eq_false h0] at hpe
      have hpn : (s.toList != ([] : List UInt8)) = true := by rw [bne, hpe]; rfl
      by_cases h1 : s.size ≤ 100
      · have h1I : (s.size : Int) ≤ 100 := by omega
        have HT := Lib.hid (show plainP s from ⟨HA2.out, h0, h1⟩)
        clear h0
        go_wp2_with fail
        go_ret
        exact ⟨⟨true, rfl, fun _ => HT.out, fun _ => rfl⟩, rfl⟩
      · have h1I : ¬ (s.size : Int) ≤ 100 := by omega
        have HF := Lib.hid (show ¬ plainP s from fun h => h1 h.2.2)
        clear h0
        go_wp2_with fail
        go_ret
        exact ⟨⟨false, rfl, fun h => (by cases h), fun h => absurd h HF.out⟩, rfl⟩
    have hkI : (k : Int) < (s.size : Int) := by omega
    have hb := byt_atP s k hk
    have HC := Lib.hid (show ∀ c, byt s k = c → alnum c = false → ¬ plainP s from fun c hc h hp => by
      have := hp.1 k hk
      rw [hc, h] at this
      cases this)
    have HG := Lib.hid (show ∀ c, byt s k = c → alnum c = true → ∀ i, i < k + 1 → alnum (byt s i) = true from fun c hc h i hi => by
      by_cases he : i = k
      · rw [he, hc]; exact h
      · exact HA.out i (by omega))
    rw [← hb] at HC HG
    obtain ⟨c, hc0⟩ : ∃ c, (s[k]'hk).toNat = c := ⟨_, rfl⟩
    rcases (by omega : c < 48 ∨ (48 ≤ c ∧ c ≤ 57) ∨ (58 ≤ c ∧ c ≤ 64) ∨ (65 ≤ c ∧ c ≤ 90) ∨ (91 ≤ c ∧ c ≤ 96) ∨ (97 ≤ c ∧ c ≤ 122) ∨ 123 ≤ c) with hc | hc | hc | hc | hc | hc | hc
    · have t97 : ¬ (97 : Int) ≤ ((s[k]'hk).toNat : Int) := by omega
      have t122 : ((s[k]'hk).toNat : Int) ≤ (122 : Int) := by omega
      have t65 : ¬ (65 : Int) ≤ ((s[k]'hk).toNat : Int) := by omega
      have t90 : ((s[k]'hk).toNat : Int) ≤ (90 : Int) := by omega
      have t48 : ¬ (48 : Int) ≤ ((s[k]'hk).toNat : Int) := by omega
      have t57 : ((s[k]'hk).toNat : Int) ≤ (57 : Int) := by omega
      have hal : alnum c = false := by unfold alnum; simp; omega
      have HF := Lib.hid (HC.out c hc0 hal)
      clear HC HG hal hb hc0 hc
      go_wp2_with fail
      go_ret
      exact ⟨⟨false, rfl, fun h => (by cases h), fun h => absurd h HF.out⟩, rfl⟩
    · have t97 : ¬ (97 : Int) ≤ ((s[k]'hk).toNat : Int) := by omega
      have t122 : ((s[k]'hk).toNat : Int) ≤ (122 : Int) := by omega
      have t65 : ¬ (65 : Int) ≤ ((s[k]'hk).toNat : Int) := by omega
      have t90 : ((s[k]'hk).toNat : Int) ≤ (90 : Int) := by omega
      have t48 : (48 : Int) ≤ ((s[k]'hk).toNat : Int) := by omega
      have t57 : ((s[k]'hk).toNat : Int) ≤ (57 : Int) := by omega
      have hal : alnum c = true := by unfold alnum; simp; omega
      have HG2 := Lib.hid (HG.out c hc0 hal)
      clear HC HG hal hb hc0 hc
      go_wp2_with fail
      go_roundg (gk - 1)
      case measure => omega
      case rel => exact ⟨k + 1, by omega, by go_num, HG2, rfl⟩
    · have t97 : ¬ (97 : Int) ≤ ((s[k]'hk).toNat : Int) := by omega
      have t122 : ((s[k]'hk).toNat : Int) ≤ (122 : Int) := by omega
      have t65 : ¬ (65 : Int) ≤ ((s[k]'hk).toNat : Int) := by omega
      have t90 : ((s[k]'hk).toNat : Int) ≤ (90 : Int) := by omega
      have t48 : (48 : Int) ≤ ((s[k]'hk).toNat : Int) := by omega
      have t57 : ¬ ((s[k]'hk).toNat : Int) ≤ (57 : Int) := by omega
      have hal : alnum c = false := by unfold alnum; simp; omega
      have HF := Lib.hid (HC.out c hc0 hal)
      clear HC HG hal hb hc0 hc
      go_wp2_with fail
      go_ret
      exact ⟨⟨false, rfl, fun h => (by cases h), fun h => absurd h HF.out⟩, rfl⟩
    · have t97 : ¬ (97 : Int) ≤ ((s[k]'hk).toNat : Int) := by omega
      have t122 : ((s[k]'hk).toNat : Int) ≤ (122 : Int) := by omega
      have t65 : (65 : Int) ≤ ((s[k]'hk).toNat : Int) := by omega
      have t90 : ((s[k]'hk).toNat : Int) ≤ (90 : Int) := by omega
      have t48 : (48 : Int) ≤ ((s[k]'hk).toNat : Int) := by omega
      have t57 : ¬ ((s[k]'hk).toNat : Int) ≤ (57 : Int) := by omega
      have hal : alnum c = true := by unfold alnum; simp; omega
      have HG2 := Lib.hid (HG.out c hc0 hal)
      clear HC HG hal hb hc0 hc
      go_wp2_with fail
      go_roundg (gk - 1)
      case measure => omega
      case rel => exact ⟨k + 1, by omega, by go_num, HG2, rfl⟩
    · have t97 : ¬ (97 : Int) ≤ ((s[k]'hk).toNat : Int) := by omega
      have t122 : ((s[k]'hk).toNat : Int) ≤ (122 : Int) := by omega
      have t65 : (65 : Int) ≤ ((s[k]'hk).toNat : Int) := by omega
      have t90 : ¬ ((s[k]'hk).toNat : Int) ≤ (90 : Int) := by omega
      have t48 : (48 : Int) ≤ ((s[k]'hk).toNat : Int) := by omega
      have t57 : ¬ ((s[k]'hk).toNat : Int) ≤ (57 : Int) := by omega
      have hal : alnum c = false := by unfold alnum; simp; omega
      have HF := Lib.hid (HC.out c hc0 hal)
      clear HC HG hal hb hc0 hc
      go_wp2_with fail
      go_ret
      exact ⟨⟨false, rfl, fun h => (by cases h), fun h => absurd h HF.out⟩, rfl⟩
    · have t97 : (97 : Int) ≤ ((s[k]'hk).toNat : Int) := by omega
      have t122 : ((s[k]'hk).toNat : Int) ≤ (122 : Int) := by omega
      have t65 : (65 : Int) ≤ ((s[k]'hk).toNat : Int) := by omega
      have t90 : ¬ ((s[k]'hk).toNat : Int) ≤ (90 : Int) := by omega
      have t48 : (48 : Int) ≤ ((s[k]'hk).toNat : Int) := by omega
      have t57 : ¬ ((s[k]'hk).toNat : Int) ≤ (57 : Int) := by omega
      have hal : alnum c = true := by unfold alnum; simp; omega
      have HG2 := Lib.hid (HG.out c hc0 hal)
      clear HC HG hal hb hc0 hc
      go_wp2_with fail
      go_roundg (gk - 1)
      case measure => omega
      case rel => exact ⟨k + 1, by omega, by go_num, HG2, rfl⟩
    · have t97 : (97 : Int) ≤ ((s[k]'hk).toNat : Int) := by omega
      have t122 : ¬ ((s[k]'hk).toNat : Int) ≤ (122 : Int) := by omega
      have t65 : (65 : Int) ≤ ((s[k]'hk).toNat : Int) := by omega
      have t90 : ¬ ((s[k]'hk).toNat : Int) ≤ (90 : Int) := by omega
      have t48 : (48 : Int) ≤ ((s[k]'hk).toNat : Int) := by omega
      have t57 : ¬ ((s[k]'hk).toNat : Int) ≤ (57 : Int) := by omega
      have hal : alnum c = false := by unfold alnum; simp; omega
      have HF := Lib.hid (HC.out c hc0 hal)
      clear HC HG hal hb hc0 hc
      go_wp2_with fail
      go_ret
      exact ⟨⟨false, rfl, fun h => (by cases h), fun h => absurd h HF.out⟩, rfl⟩
end Go.Proofs.YtejogobhnbjpdaaDoor
namespace Go.Proofs.YtejogobhnbjpdaaDoor
set_option linter.unusedVariables false
set_option linter.unusedSimpArgs false
open Go.ChangeShapes Go.WideShapes Go.ChangeAt Go.RowKit

/-- strings.IndexAny of a text, for any bytes. -/
def IdxG (cs : ByteArray) : Prop := ∀ (s : ByteArray) (w : World), s.size ≤ 1048576 → Calls Tryd.prog 104 #[.string s, .string cs] w fun e w' => e = .returned (.int .i64 (Lib.indexAny s.data.toList cs.data.toList)) ∧ Below w.heap.size w w'
theorem idxC_of (h : IdxG wBetween) : IdxC := h
theorem anyC_of (h : IdxG wAny) : AnyC := by
  intro s w hs
  have HX := Lib.hid (fun w1 => h s w1 hs)
  have hor := ia_or wAny.data.toList s.data.toList
  have ha : anyB s = decide (0 ≤ Lib.indexAny s.data.toList wAny.data.toList) := rfl
  rw [ha]
  generalize Lib.indexAny s.data.toList wAny.data.toList = ix at *
  rcases hor with rfl | ⟨n, _, rfl⟩
  · go_enter Tryd.func107, Tryd.ntmps107
    go_wp2_with fail
    refine (HX.out _).mono ?_
    rintro r w1 ⟨rfl, hB⟩
    have HB := Lib.hid hB
    clear hB
    go_wp2_with fail
    go_ret
    exact ⟨rfl, HB.out⟩
  · have hn0 : (0 : Int) ≤ (n : Int) := by omega
    rw [decide_eq_true hn0]
    go_enter Tryd.func107, Tryd.ntmps107
    go_wp2_with fail
    refine (HX.out _).mono ?_
    rintro r w1 ⟨rfl, hB⟩
    have HB := Lib.hid hB
    clear hB
    go_wp2_with fail
    go_ret
    first
      | exact ⟨rfl, HB.out⟩
      | exact ⟨by rw [decide_eq_true hn0], HB.out⟩
/-- Texts of more than eight bytes. -/
theorem idx_long (s cs : ByteArray) (w : World) (h2 : 2 ≤ cs.size) (hc : cs.size < 4294967281) (hac : ∀ (j : Nat) b, cs.data.toList[j]? = some b → b.toNat < 128) (h8 : 8 < s.size) (hs : s.size ≤ 1048576) :
    Calls Tryd.prog 104 #[.string s, .string cs] w fun e w' => e = .returned (.int .i64 (Lib.indexAny s.data.toList cs.data.toList)) ∧ Below w.heap.size w w' := by
  refine (Tryd.strings_IndexAny_long (zero_of_info (P := Tryd.prog) (t := 102) (n := 256) (by kernel_rfl)).1 s cs w h2 h8 (by omega) hc hac).mono ?_
  rintro e w' ⟨rfl, rfl⟩
  exact ⟨rfl, ((Below.refl _ _).alloc (Nat.le_refl _) _).alloc (by simp) _⟩
end Go.Proofs.YtejogobhnbjpdaaDoor
