/- Plain lemmas: what made texts say. -/
import Derived.Test.YtkmachhfibcdlaaDoorDe
namespace Go.Proofs.YtkmachhfibcdlaaDoor
set_option linter.unusedVariables false
set_option linter.unusedSimpArgs false
open Go.ChangeShapes Go.WideShapes Go.ChangeAt Go.RowKit

/-- A line that says something, and what. -/
def Step (R : MR) (l : List UInt8) (R' : MR) : Prop := wordsL (mkB l) ≠ [] ∧ lineR R (wordsL (mkB l)) = (true, R')
theorem goM_step {R R' : MR} {l : List UInt8} (h : Step R l R') (i : Nat) (rest : List ByteArray) : goM R i (mkB l :: rest) = goM R' (i + 1) rest := by
  rw [goM_on h.1 (by rw [h.2]), h.2]
def lnM (p : ByteArray) : List UInt8 := joinS [wModule.data.toList, p.data.toList]
def lnG (n : Nat) : List UInt8 := joinS [wGo.data.toList, (lvB n).data.toList]
def lnR (x : Rp) : List UInt8 := joinS [wReplace.data.toList, x.1.data.toList, wArrow.data.toList, x.2.data.toList]
def lnQ (o : ByteArray) : List UInt8 := joinS [wRequire.data.toList, o.data.toList, [118, 49]]
def lnE (o : ByteArray) : List UInt8 := joinS [wExclude.data.toList, o.data.toList, [118, 49]]
def lnT (o : ByteArray) : List UInt8 := joinS [wRetract.data.toList, o.data.toList]
theorem piece_lit {l : List UInt8} (h1 : l ≠ []) (h2 : l.all (fun b => !blank b) = true) (h3 : noSS l = true) : Piece l :=
  ⟨h1, fun b hb => by have := List.all_eq_true.1 h2 b hb; simpa using this, h3⟩
theorem map_data (P : List ByteArray) : (P.map (fun x => x.data.toList)).map mkB = P := by
  induction P with
  | nil => rfl
  | cons a l ih => simp only [List.map_cons, mkB_data, ih]
theorem step_of {R R' : MR} {P : List ByteArray} (hne : P ≠ []) (hp : ∀ x ∈ P, Piece x.data.toList) (hl : lineR R P = (true, R')) : Step R (joinS (P.map (fun x => x.data.toList))) R' := by
  have hw : wordsL (mkB (joinS (P.map (fun x => x.data.toList)))) = P := by
    rw [words_join _ (fun x hx => by
      obtain ⟨y, hy, rfl⟩ := List.mem_map.1 hx
      exact hp y hy), map_data]
  exact ⟨by rw [hw]; exact hne, by rw [hw]; exact hl⟩
theorem step_M {R : MR} {p : ByteArray} (hw : wordP p) (hb : R.blk = ⟨#[]⟩) (hp : R.path = ⟨#[]⟩) : Step R (lnM p) { R with path := p } :=
  step_of (P := [wModule, p]) (by simp) (fun x hx => by
    simp only [List.mem_cons, List.not_mem_nil, or_false] at hx
    rcases hx with rfl | rfl
    · exact piece_lit (by decide) (by decide) (by decide)
    · exact word_piece hw) (line_module hw hb hp)
theorem lv_piece : ∀ n, n ≤ 9 → Piece (lvB n).data.toList := fun n hn => by
  have h : ∀ m : Fin 10, (lvB m.val).data.toList.all (fun b => !blank b) = true ∧ noSS (lvB m.val).data.toList = true := by decide +kernel
  have := h ⟨n, by omega⟩
  exact piece_lit (by simp [lvB]) this.1 this.2
theorem step_G {R : MR} {n : Nat} (hn : n ≤ 9) (hb : R.blk = ⟨#[]⟩) (hl : R.lev = false) : Step R (lnG n) { R with lvl := (n : Int), lev := true } :=
  step_of (P := [wGo, lvB n]) (by simp) (fun x hx => by
    simp only [List.mem_cons, List.not_mem_nil, or_false] at hx
    rcases hx with rfl | rfl
    · exact piece_lit (by decide) (by decide) (by decide)
    · exact lv_piece n hn) (line_go hn hb hl)
theorem step_R {R : MR} {x : Rp} (hw : wordP x.1) (hd : dirB x.2 = true) (hpd : Piece x.2.data.toList) (hb : R.blk = ⟨#[]⟩) (hn : ∀ y ∈ R.reps, y.1 ≠ x.1) : Step R (lnR x) { R with reps := R.reps ++ [x] } :=
  step_of (P := [wReplace, x.1, wArrow, x.2]) (by simp) (fun y hy => by
    simp only [List.mem_cons, List.not_mem_nil, or_false] at hy
    rcases hy with rfl | rfl | rfl | rfl
    · exact piece_lit (by decide) (by decide) (by decide)
    · exact word_piece hw
    · exact piece_lit (by decide) (by decide) (by decide)
    · exact hpd) (line_replace hw hd hb hn)
theorem v1_piece : Piece [118, 49] := piece_lit (by decide) (by decide) (by decide)
theorem step_Q {R : MR} {o : ByteArray} (hw : wordP o) (hb : R.blk = ⟨#[]⟩) : Step R (lnQ o) R :=
  step_of (P := [wRequire, o, ⟨#[118, 49]⟩]) (by simp) (fun y hy => by
    simp only [List.mem_cons, List.not_mem_nil, or_false] at hy
    rcases hy with rfl | rfl | rfl
    · exact piece_lit (by decide) (by decide) (by decide)
    · exact word_piece hw
    · exact v1_piece) (line_require hw hb)
theorem step_E {R : MR} {o : ByteArray} (hw : wordP o) (hb : R.blk = ⟨#[]⟩) : Step R (lnE o) R :=
  step_of (P := [wExclude, o, ⟨#[118, 49]⟩]) (by simp) (fun y hy => by
    simp only [List.mem_cons, List.not_mem_nil, or_false] at hy
    rcases hy with rfl | rfl | rfl
    · exact piece_lit (by decide) (by decide) (by decide)
    · exact word_piece hw
    · exact v1_piece) (line_exclude hw hb)
theorem step_T {R : MR} {o : ByteArray} (hw : wordP o) (hb : R.blk = ⟨#[]⟩) : Step R (lnT o) R :=
  step_of (P := [wRetract, o]) (by simp) (fun y hy => by
    simp only [List.mem_cons, List.not_mem_nil, or_false] at hy
    rcases hy with rfl | rfl
    · exact piece_lit (by decide) (by decide) (by decide)
    · exact word_piece hw) (line_retract hw hb)
/-- Lines that change nothing. -/
theorem goM_same {R : MR} : ∀ (L : List (List UInt8)) (i : Nat) (rest : List ByteArray), (∀ l ∈ L, Step R l R) → goM R i (L.map mkB ++ rest) = goM R (i + L.length) rest
  | [], i, rest, _ => rfl
  | l :: L, i, rest, h => by
    show goM R i (mkB l :: (L.map mkB ++ rest)) = _
    rw [goM_step (h l List.mem_cons_self), goM_same L (i + 1) rest (fun z hz => h z (List.mem_cons_of_mem _ hz)), List.length_cons]
    congr 1
    omega
/-- Replacements, of which no two are of one path. -/
theorem goM_reps : ∀ (X : List Rp) (R : MR) (i : Nat) (rest : List ByteArray), R.blk = ⟨#[]⟩ → (∀ x ∈ X, wordP x.1 ∧ dirB x.2 = true ∧ Piece x.2.data.toList) → (∀ x ∈ X, ∀ y ∈ R.reps, y.1 ≠ x.1) → X.Pairwise (fun a b => a.1 ≠ b.1) →
    goM R i ((X.map lnR).map mkB ++ rest) = goM { R with reps := R.reps ++ X } (i + X.length) rest
  | [], R, i, rest, _, _, _, _ => by
    show goM R i rest = _
    rw [List.append_nil]
    rfl
  | x :: X, R, i, rest, hb, hX, hR, hP => by
    obtain ⟨h1, h2, h3⟩ := hX x List.mem_cons_self
    rw [List.pairwise_cons] at hP
    show goM R i (mkB (lnR x) :: ((X.map lnR).map mkB ++ rest)) = _
    rw [goM_step (step_R h1 h2 h3 hb (hR x List.mem_cons_self)), goM_reps X { R with reps := R.reps ++ [x] } (i + 1) rest hb (fun z hz => hX z (List.mem_cons_of_mem _ hz)) (fun z hz y hy => by
      rcases List.mem_append.1 hy with hy | hy
      · exact hR z (List.mem_cons_of_mem _ hz) y hy
      · rw [List.mem_singleton.1 hy]
        exact hP.1 z hz) hP.2, List.length_cons]
    dsimp only
    rw [List.append_assoc]
    congr 1
    omega
/-- Lines, each with its end. -/
def tx (L : List (List UInt8)) : List UInt8 := L.flatMap (fun l => l ++ [10])
theorem tx_cons (l : List UInt8) (L : List (List UInt8)) : tx (l :: L) = l ++ 10 :: tx L := by
  show (l ++ [10]) ++ tx L = _
  rw [List.append_assoc]
  rfl
theorem cuts_tx : ∀ (L : List (List UInt8)) (e : List UInt8), (∀ l ∈ L, (10 : UInt8) ∉ l) → (10 : UInt8) ∉ e → cuts 10 [] (tx L ++ e) = L ++ [e]
  | [], e, _, he => by
    show cuts 10 [] e = [e]
    rw [cuts_none _ _ _ he]
    rfl
  | l :: L, e, hL, he => by
    rw [tx_cons, List.append_assoc, List.cons_append, cuts_append, cuts_none _ _ _ (hL l List.mem_cons_self), cuts_tx L e (fun z hz => hL z (List.mem_cons_of_mem _ hz)) he]
    rfl
theorem no10_join : ∀ (P : List (List UInt8)), (∀ x ∈ P, (10 : UInt8) ∉ x) → (10 : UInt8) ∉ joinS P
  | [], _ => by simp [joinS]
  | [x], h => h x List.mem_cons_self
  | x :: y :: r, h => by
    show (10 : UInt8) ∉ x ++ 32 :: joinS (y :: r)
    intro hm
    rcases List.mem_append.1 hm with hm | hm
    · exact h x List.mem_cons_self hm
    · rcases List.mem_cons.1 hm with hm | hm
      · exact absurd hm (by decide)
      · exact no10_join (y :: r) (fun z hz => h z (List.mem_cons_of_mem _ hz)) hm
/-- The two texts of the statement ModfileOrder say the same. -/
theorem order_mod (p : ByteArray) (n : Nat) (X : List Rp) (O : List ByteArray) (hp : wordP p) (hn : n ≤ 9) (hX : ∀ x ∈ X, wordP x.1 ∧ dirB x.2 = true ∧ Piece x.2.data.toList) (hX10 : ∀ x ∈ X, (10 : UInt8) ∉ x.2.data.toList) (hP : X.Pairwise (fun a b => a.1 ≠ b.1)) (hO : ∀ o ∈ O, wordP o) :
    modM (mkB (tx (lnM p :: lnG n :: (X.map lnR ++ O.map lnQ)))) = ⟨p, (n : Int), X, 0⟩ ∧ modM (mkB (tx (O.reverse.map lnE ++ (X.map lnR ++ (O.map lnT ++ [lnG n]))) ++ lnM p)) = ⟨p, (n : Int), X, 0⟩ := by
  have hpne : p ≠ ⟨#[]⟩ := hp.2.1
  have h10w : ∀ {s : ByteArray}, wordP s → (10 : UInt8) ∉ s.data.toList := fun h => word_no10 h
  have hM : (10 : UInt8) ∉ lnM p := no10_join _ (fun x hx => by
    simp only [List.mem_cons, List.not_mem_nil, or_false] at hx
    rcases hx with rfl | rfl
    · decide
    · exact h10w hp)
  have hG : (10 : UInt8) ∉ lnG n := no10_join _ (fun x hx => by
    simp only [List.mem_cons, List.not_mem_nil, or_false] at hx
    rcases hx with rfl | rfl
    · decide
    · have h : ∀ m : Fin 10, (10 : UInt8) ∉ (lvB m.val).data.toList := by decide +kernel
      exact h ⟨n, by omega⟩)
  have hR : ∀ x ∈ X, (10 : UInt8) ∉ lnR x := fun x hx => no10_join _ (fun y hy => by
    simp only [List.mem_cons, List.not_mem_nil, or_false] at hy
    rcases hy with rfl | rfl | rfl | rfl
    · decide
    · exact h10w (hX x hx).1
    · decide
    · exact hX10 x hx)
  have hQ : ∀ o ∈ O, (10 : UInt8) ∉ lnQ o ∧ (10 : UInt8) ∉ lnE o ∧ (10 : UInt8) ∉ lnT o := fun o ho => by
    refine ⟨no10_join _ (fun y hy => ?_), no10_join _ (fun y hy => ?_), no10_join _ (fun y hy => ?_)⟩
    · simp only [List.mem_cons, List.not_mem_nil, or_false] at hy
      rcases hy with rfl | rfl | rfl
      · decide
      · exact h10w (hO o ho)
      · decide
    · simp only [List.mem_cons, List.not_mem_nil, or_false] at hy
      rcases hy with rfl | rfl | rfl
      · decide
      · exact h10w (hO o ho)
      · decide
    · simp only [List.mem_cons, List.not_mem_nil, or_false] at hy
      rcases hy with rfl | rfl
      · decide
      · exact h10w (hO o ho)
  have hw0 : wordsL (mkB []) = [] := rfl
  constructor
  · have hc : cutB 10 (mkB (tx (lnM p :: lnG n :: (X.map lnR ++ O.map lnQ)))) = mkB (lnM p) :: mkB (lnG n) :: ((X.map lnR).map mkB ++ ((O.map lnQ).map mkB ++ [mkB []])) := by
      unfold cutB
      rw [mkB_toList]
      have := cuts_tx (lnM p :: lnG n :: (X.map lnR ++ O.map lnQ)) [] (fun l hl => by
        simp only [List.mem_cons, List.mem_append, List.mem_map] at hl
        rcases hl with rfl | rfl | ⟨x, hx, rfl⟩ | ⟨o, ho, rfl⟩
        · exact hM
        · exact hG
        · exact hR x hx
        · exact (hQ o ho).1) (by simp)
      rw [List.append_nil] at this
      rw [this]
      simp
    unfold modM modX
    rw [hc, goM_step (step_M hp rfl rfl), goM_step (step_G hn rfl rfl), goM_reps X _ _ _ rfl hX (by intro x _ y hy; cases hy) hP, goM_same _ _ _ (fun l hl => by
      obtain ⟨o, ho, rfl⟩ := List.mem_map.1 hl
      exact step_Q (hO o ho) rfl), goM_dull hw0, goM_out]
    unfold endM
    rw [if_neg (by simp), if_neg (by
      rintro (h | h)
      · exact h rfl
      · exact hpne h)]
    rfl
  · have hc : cutB 10 (mkB (tx (O.reverse.map lnE ++ (X.map lnR ++ (O.map lnT ++ [lnG n]))) ++ lnM p)) = (O.reverse.map lnE).map mkB ++ ((X.map lnR).map mkB ++ ((O.map lnT).map mkB ++ [mkB (lnG n), mkB (lnM p)])) := by
      unfold cutB
      rw [mkB_toList, cuts_tx _ _ (fun l hl => by
        simp only [List.mem_cons, List.mem_append, List.mem_map, List.mem_reverse, List.not_mem_nil, or_false] at hl
        rcases hl with ⟨o, ho, rfl⟩ | ⟨x, hx, rfl⟩ | ⟨o, ho, rfl⟩ | rfl
        · exact (hQ o ho).2.1
        · exact hR x hx
        · exact (hQ o ho).2.2
        · exact hG) hM]
      simp
    unfold modM modX
    rw [hc, goM_same _ _ _ (fun l hl => by
      obtain ⟨o, ho, rfl⟩ := List.mem_map.1 hl
      exact step_E (hO o (List.mem_reverse.1 ho)) rfl), goM_reps X _ _ _ rfl hX (by intro x _ y hy; cases hy) hP, goM_same _ _ _ (fun l hl => by
      obtain ⟨o, ho, rfl⟩ := List.mem_map.1 hl
      exact step_T (hO o ho) rfl), goM_step (step_G hn rfl rfl), goM_step (step_M hp rfl rfl), goM_out]
    unfold endM
    rw [if_neg (by simp), if_neg (by
      rintro (h | h)
      · exact h rfl
      · exact hpne h)]
    rfl
end Go.Proofs.YtkmachhfibcdlaaDoor
