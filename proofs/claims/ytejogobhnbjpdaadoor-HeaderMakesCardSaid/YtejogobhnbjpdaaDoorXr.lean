/- Theory: a text gone through piece by piece; the headers of HeaderBlank's two texts. -/
import Derived.Test.YtejogobhnbjpdaaDoorXq
namespace Go.Proofs.YtejogobhnbjpdaaDoor
set_option linter.unusedVariables false
set_option linter.unusedSimpArgs false
open Go.ChangeShapes Go.WideShapes Go.ChangeAt Go.RowKit

/-- How far a text was gone through: the place, what stands from there on, the tokens without their places, the comments. -/
def Rch (s : ByteArray) (q : Nat) (X : List UInt8) (K : List (Nat × ByteArray)) (N : List Tk) : Prop := ∃ l, lexT s 0 [] [] = lexT s q l N ∧ l.map kt = K ∧ Rest s q X
theorem Rch.start (s : ByteArray) : Rch s 0 s.data.toList [] [] := ⟨[], rfl, rfl, Rest.start s⟩
section
variable {s : ByteArray} {q : Nat} {K : List (Nat × ByteArray)} {N : List Tk} {R : List UInt8}
theorem Rch.word {a c : UInt8} {w : List UInt8} (h : Rch s q (a :: w ++ c :: R) K N) (ha : letC a = true) (hw : ∀ x ∈ w, wordC x = true) (h0 : 0 < c.toNat) (h1 : c.toNat < 128) (hc : wordC c = false) :
    Rch s (q + (a :: w).length) (c :: R) (K ++ [(1, ⟨(a :: w).toArray⟩)]) N := by
  obtain ⟨l, e1, e2, e3⟩ := h
  exact ⟨_, e1.trans (go_word e3 ha hw h0 h1 hc l N), by rw [List.map_append, e2]; rfl, Rest.app (w := a :: w) e3⟩
theorem Rch.bl {c : UInt8} (h : Rch s q (c :: R) K N) (hc : c = 32 ∨ c = 9) : Rch s (q + 1) R K N := by
  obtain ⟨l, e1, e2, e3⟩ := h
  exact ⟨_, e1.trans (go_bl e3 hc l N), e2, e3.tail⟩
theorem Rch.str {w : List UInt8} (h : Rch s q (34 :: (w ++ 34 :: R)) K N) (hw : ∀ x ∈ w, quoC x = true) : Rch s (q + (w.length + 2)) R (K ++ [(4, ⟨(34 :: (w ++ [34])).toArray⟩)]) N := by
  obtain ⟨l, e1, e2, e3⟩ := h
  refine ⟨_, e1.trans (go_str e3 hw l N), by rw [List.map_append, e2]; rfl, ?_⟩
  have h2 : Rest s q ((34 :: (w ++ [34])) ++ R) := by simpa using e3
  have := h2.app
  simpa using this
theorem Rch.sign {c : UInt8} (h : Rch s q (c :: R) K N) (hc : c = 40 ∨ c = 41 ∨ (c = 46 ∧ ∃ R', R = 32 :: R')) : Rch s (q + 1) R (K ++ [(5, ⟨#[c]⟩)]) N := by
  obtain ⟨l, e1, e2, e3⟩ := h
  exact ⟨_, e1.trans (go_sign e3 hc l N), by rw [List.map_append, e2]; rfl, e3.tail⟩
theorem Rch.line {w : List UInt8} (h : Rch s q (47 :: 47 :: w ++ 10 :: R) K N) (hw : ∀ x ∈ w, lowC x = true) : Rch s (q + (47 :: 47 :: w).length) (10 :: R) K (N ++ [(0, ⟨(47 :: 47 :: w).toArray⟩, q)]) := by
  obtain ⟨l, e1, e2, e3⟩ := h
  exact ⟨_, e1.trans (go_line e3 hw l N), e2, Rest.app (w := 47 :: 47 :: w) e3⟩
theorem Rch.closed {w : List UInt8} (h : Rch s q (47 :: 42 :: w ++ 42 :: 47 :: R) K N) (hw : ∀ x ∈ w, lowC x = true ∧ x ≠ 42) : Rch s (q + (w.length + 4)) R K (N ++ [(0, ⟨(47 :: 42 :: w ++ [42, 47]).toArray⟩, q)]) := by
  obtain ⟨l, e1, e2, e3⟩ := h
  refine ⟨_, e1.trans (go_closed e3 hw l N), e2, ?_⟩
  have h2 : Rest s q ((47 :: 42 :: w ++ [42, 47]) ++ R) := by simpa using e3
  have := h2.app
  simpa using this
theorem last_of {l : List Tk} {X : List (Nat × ByteArray)} {a : Nat × ByteArray} (h : l.map kt = X ++ [a]) : ∃ l0 t, l = l0 ++ [t] ∧ t.1 = a.1 ∧ t.2.1 = a.2 := by
  cases hl : l.getLast? with
  | none =>
    rw [List.getLast?_eq_none_iff] at hl
    subst hl
    have := congrArg List.length h
    simp at this
  | some t =>
    obtain ⟨l0, rfl⟩ := List.getLast?_eq_some_iff.1 hl
    rw [List.map_append] at h
    have h2 := List.append_inj' h (by simp)
    have h3 : kt t = a := by simpa using h2.2
    subst h3
    exact ⟨l0, t, rfl, rfl, rfl⟩
theorem ends_kt {t : Tk} {a : Nat × ByteArray} (h1 : t.1 = a.1) (h2 : t.2.1 = a.2) : endsB t = endsB (a.1, a.2, 0) := by
  unfold endsB; rw [h1, h2]
theorem Rch.lf1 {a : Nat × ByteArray} (h : Rch s q (10 :: R) (K ++ [a]) N) (ha : endsB (a.1, a.2, 0) = true) : Rch s (q + 1) R (K ++ [a, wSemi]) N := by
  obtain ⟨l, e1, e2, e3⟩ := h
  obtain ⟨l0, t, rfl, h1, h2⟩ := last_of e2
  refine ⟨_, e1.trans (go_lf e3 _ N), ?_, e3.tail⟩
  rw [feed_on (by rw [ends_kt h1 h2]; exact ha)]
  have e4 : (l0 ++ [t, (6, (⟨#[]⟩ : ByteArray), q)] : List Tk) = (l0 ++ [t]) ++ [(6, ⟨#[]⟩, q)] := by simp
  rw [e4, List.map_append, e2]
  simp [kt, wSemi]
theorem Rch.lf0 {a : Nat × ByteArray} (h : Rch s q (10 :: R) (K ++ [a]) N) (ha : endsB (a.1, a.2, 0) = false) : Rch s (q + 1) R (K ++ [a]) N := by
  obtain ⟨l, e1, e2, e3⟩ := h
  obtain ⟨l0, t, rfl, h1, h2⟩ := last_of e2
  refine ⟨_, e1.trans (go_lf e3 _ N), ?_, e3.tail⟩
  rw [feed_off (by rw [ends_kt h1 h2]; exact ha), e2]
theorem Rch.lfn (h : Rch s q (10 :: R) [] N) : Rch s (q + 1) R [] N := by
  obtain ⟨l, e1, e2, e3⟩ := h
  have hl : l = [] := by simpa using e2
  subst hl
  exact ⟨_, e1.trans (go_lf e3 _ N), rfl, e3.tail⟩
/-- At the end, behind a semicolon. -/
theorem Rch.done (h : Rch s q [] (K ++ [wSemi]) N) (hk : skN s = 0) : (lexL s).map kt = K ++ [wSemi, (0, ⟨#[]⟩)] ∧ lexM s = N := by
  obtain ⟨l, e1, e2, e3⟩ := h
  obtain ⟨l0, t, rfl, h1, h2⟩ := last_of e2
  have hq : ¬ q < s.size := fun hq => by
    have := congrArg List.length e3.2
    rw [List.length_drop, ← Lib.size_eq] at this
    simp at this; omega
  have hx := e1.trans (lexT_out hq (l0 ++ [t]) N)
  rw [feed_off (by rw [ends_kt h1 h2]; decide)] at hx
  unfold lexL lexM
  rw [hk, hx]
  refine ⟨?_, rfl⟩
  show ((l0 ++ [t]) ++ [(0, (⟨#[]⟩ : ByteArray), s.size)]).map kt = _
  rw [List.map_append, e2]
  simp [kt, wSemi]
end
theorem Rch.hide {s : ByteArray} {q : Nat} {X : List UInt8} {K : List (Nat × ByteArray)} {N : List Tk} {P : Tk → Prop} (h : Rch s q X K N) (hN : ∀ t ∈ N, P t) : ∃ q N, (∀ t ∈ N, P t) ∧ Rch s q X K N := ⟨_, _, hN, h⟩
theorem skN_first {s : ByteArray} {c : UInt8} {R : List UInt8} (h : s.data.toList = c :: R) (hc : c ≠ 239) : skN s = 0 := by
  unfold skN
  rw [h]
  split
  · rename_i hp
    simp [Lib.hasPrefix, List.isPrefixOf] at hp
    exact absurd hp.1.symm hc
  · rfl

/-- A comment that is no directive. -/
def Dull (t : Tk) : Prop := (buildD t.2.1).2 = false ∧ (plusD t.2.1).2 = false ∧ (embD t.2.1).2 = false
theorem dir_no {x p : ByteArray} (h : Lib.hasPrefix x.data.toList p.data.toList = false) : (dirR x p).2 = false := by
  unfold dirR; rw [h]; rfl
theorem behind_two {a b : UInt8} {w : List UInt8} : behind ⟨(a :: b :: w).toArray⟩ = ⟨w.toArray⟩ := by
  apply ba_ext
  unfold behind
  have hs : (⟨(a :: b :: w).toArray⟩ : ByteArray).size = w.length + 2 := by rw [Lib.size_eq]; simp
  rw [Lib.extract_data, hs]
  simp
theorem dull_of {w : List UInt8} {a b : UInt8} {q : Nat} (h1 : w.head? = some 32) (h2 : ∀ c, (Lib.trimLeftS w [32, 9]).head? = some c → c ≠ 43) : Dull (0, ⟨(a :: b :: w).toArray⟩, q) := by
  have hb : behind ⟨(a :: b :: w).toArray⟩ = ⟨w.toArray⟩ := behind_two
  have hp : ∀ (c : UInt8) (l : List UInt8), c ≠ 32 → Lib.hasPrefix w (c :: l) = false := fun c l hc => by
    cases w with
    | nil => cases h1
    | cons d w =>
      simp at h1
      subst h1
      simp [Lib.hasPrefix, List.isPrefixOf]
      intro e; exact absurd e hc
  refine ⟨?_, ?_, ?_⟩
  · unfold buildD; rw [hb]; exact dir_no (hp _ _ (by decide))
  · unfold plusD; rw [hb]
    refine dir_no ?_
    show Lib.hasPrefix (Lib.trimLeftS w [32, 9]) [43, 98, 117, 105, 108, 100] = false
    cases hw : Lib.trimLeftS w [32, 9] with
    | nil => rfl
    | cons c l =>
      have := h2 c (by rw [hw]; rfl)
      simp [Lib.hasPrefix, List.isPrefixOf]
      intro e; exact absurd e.symm this
  · unfold embD; rw [hb]; exact dir_no (hp _ _ (by decide))
theorem trimL_head {w : List UInt8} {c : UInt8} (h : (Lib.trimLeftS w [32, 9]).head? = some c) : c ∈ w := by
  unfold Lib.trimLeftS at h
  have : c ∈ w.dropWhile (([32, 9] : List UInt8).contains ·) := List.mem_of_mem_head? (by rw [h]; rfl)
  exact (List.dropWhile_suffix _).subset this
theorem con_dull {s : ByteArray} {M : List Tk} (h : ∀ t ∈ M, Dull t) (first : Nat) : conR s M first = (⟨#[]⟩, -1) := by
  have h1 : ∀ (M : List Tk), (∀ t ∈ M, Dull t) → conGo M ⟨#[]⟩ = (none, ⟨#[]⟩) := by
    intro M
    induction M with
    | nil => intro _; rfl
    | cons x M ih => intro h; rw [conGo, if_pos (h x List.mem_cons_self).1]; exact ih (fun t ht => h t (List.mem_cons_of_mem _ ht))
  have h2 : ∀ last, M.filterMap (plusL last) = [] := fun last => by
    rw [List.filterMap_eq_nil_iff]
    intro t ht
    unfold plusL
    rw [if_neg (fun k => by rw [(h t ht).2.1] at k; cases k.1)]
  unfold conR
  rw [h1 M h]
  show (if (⟨#[]⟩ : ByteArray) = ⟨#[]⟩ then (elderR M (lbR (s.extract 0 first)), (-1 : Int)) else _) = _
  rw [if_pos rfl]
  unfold elderR
  rw [h2]
  rfl
theorem emb_dull : ∀ {M : List Tk}, (∀ t ∈ M, Dull t) → ∀ E, embGo M E = (none, E)
  | [], _, E => rfl
  | x :: M, h, E => by
    rw [embGo, if_pos (h x List.mem_cons_self).2.2]
    exact emb_dull (fun t ht => h t (List.mem_cons_of_mem _ ht)) E
/-- The header of a made file of which no comment is a directive. -/
theorem parse_dull {s : ByteArray} {nm : ByteArray} {l : Il} (hT : (lexL s).map kt = (1, wPackage) :: (1, nm) :: wSemi :: (aloneK l ++ [(0, ⟨#[]⟩)])) (h95 : nm ≠ ⟨#[95]⟩) (hk : keyB nm = false) (hl : GoodI l) (hM : ∀ t ∈ lexM s, Dull t) :
    ∃ J, parseR s = ⟨nm, J, ⟨#[]⟩, [], 0, 0⟩ ∧ J.map nmOf = l.map imN := by
  obtain ⟨_, a1, a2, h1⟩ := tk_drop (T := lexL s) (i := 0) hT
  obtain ⟨_, b1, b2, h2⟩ := tk_drop h1
  obtain ⟨_, c1, c2, h3⟩ := tk_drop h2
  obtain ⟨e, J, d1, d2, d3⟩ := declR_alone (R := []) (k := 0) (b := ⟨#[]⟩) (by decide) l 3 [] hl h3
  rw [List.nil_append] at d1
  have hb := begin_is hT h95 hk d1 d3 (by decide)
  have hf : ∀ t ∈ frontR s, Dull t := fun t ht => hM t (List.mem_filter.1 (List.mem_filter.1 ht).1).1
  have hbk : ∀ t ∈ backR s, Dull t := fun t ht => hM t (List.mem_filter.1 (List.mem_filter.1 ht).1).1
  refine ⟨J, ?_, d2⟩
  have b2 : (tk (lexL s) 1).2.1 = nm := b2
  unfold parseR
  rw [hb, con_dull hf, emb_dull hbk, if_neg (fun k => k rfl), if_neg (by decide), b2]

/-- The texts of HeaderBlank. -/
def impA (p : ByteArray) : List UInt8 := [105, 109, 112, 111, 114, 116, 32, 34] ++ (p.data.toList ++ [34, 10])
def impN (nt : List UInt8) (p : ByteArray) : List UInt8 :=
  [9, 47, 47, 32] ++ (nt ++ ([10, 105, 109, 112, 111, 114, 116, 32, 47, 42, 32] ++ (nt ++ ([32, 42, 47, 32, 34] ++ (p.data.toList ++ ([34, 32, 47, 47, 32] ++ (nt ++ [10, 10])))))))
def textA (nm : ByteArray) (ps : List ByteArray) : List UInt8 := [112, 97, 99, 107, 97, 103, 101, 32] ++ (nm.data.toList ++ ([10] ++ ps.flatMap impA))
def headN (nm : ByteArray) (nt : List UInt8) : List UInt8 :=
  [47, 47, 32] ++ (nt ++ ([10, 10, 47, 42, 32] ++ (nt ++ ([32, 42, 47, 32, 112, 97, 99, 107, 97, 103, 101, 32, 47, 42, 32] ++ (nt ++ ([32, 42, 47, 32] ++ (nm.data.toList ++ ([32, 47, 47, 32] ++ (nt ++ [10, 10])))))))))
def textN (nm : ByteArray) (nt : List UInt8) (ps : List ByteArray) : List UInt8 := headN nm nt ++ ps.flatMap (impN nt)
def il (ps : List ByteArray) : Il := ps.map fun p => (0, p)
theorem il_good {ps : List ByteArray} (h : ∀ p ∈ ps, Aln p ∧ p ≠ ⟨#[]⟩) : GoodI (il ps) := fun x hx => by
  obtain ⟨p, hp, rfl⟩ := List.mem_map.1 hx
  exact h p hp
theorem word_import {x : UInt8} : x ∈ ([109, 112, 111, 114, 116] : List UInt8) → wordC x = true := by
  have : ∀ x ∈ ([109, 112, 111, 114, 116] : List UInt8), wordC x = true := by decide
  exact this x
theorem word_package {x : UInt8} : x ∈ ([97, 99, 107, 97, 103, 101] : List UInt8) → wordC x = true := by
  have : ∀ x ∈ ([97, 99, 107, 97, 103, 101] : List UInt8), wordC x = true := by decide
  exact this x
theorem ends4 (b : ByteArray) : endsB (4, b, 0) = true := by unfold endsB; rw [if_pos (.inr (.inr rfl))]
theorem ends1 {b : ByteArray} (h : joinsB b = false) : endsB (1, b, 0) = true := by
  unfold endsB
  rw [if_neg (fun k => by rcases k with k | k | k <;> cases k), if_pos rfl, h]; rfl
section
variable {s : ByteArray} {R : List UInt8} {N : List Tk}
theorem reach_A : ∀ (ps : List ByteArray) (q : Nat) (K : List (Nat × ByteArray)), (∀ p ∈ ps, Aln p ∧ p ≠ ⟨#[]⟩) → Rch s q (ps.flatMap impA ++ R) (K ++ [wSemi]) N → ∃ q' K', Rch s q' R (K' ++ [wSemi]) N ∧ K' ++ [wSemi] = K ++ [wSemi] ++ aloneK (il ps)
  | [], q, K, hp, h => ⟨q, K, by simpa using h, by simp [il, aloneK]⟩
  | p :: ps, q, K, hp, h => by
    obtain ⟨h1, _⟩ := hp p List.mem_cons_self
    have h2 : Rch s q (105 :: [109, 112, 111, 114, 116] ++ 32 :: (34 :: (p.data.toList ++ 34 :: (10 :: (ps.flatMap impA ++ R))))) (K ++ [wSemi]) N := by
      have e : ((p :: ps).flatMap impA ++ R : List UInt8) = 105 :: [109, 112, 111, 114, 116] ++ 32 :: (34 :: (p.data.toList ++ 34 :: (10 :: (ps.flatMap impA ++ R)))) := by simp [impA]
      rw [← e]; exact h
    have h3 := (h2.word (by decide) (fun x hx => word_import hx) (by decide) (by decide) (by decide)).bl (.inl rfl)
    have h4 := h3.str (fun x hx => quoC_word (alnC_word (h1 x hx)))
    have h5 := h4.lf1 (ends4 _)
    obtain ⟨q6, h6⟩ : ∃ q6, Rch s q6 (ps.flatMap impA ++ R) ((K ++ [wSemi] ++ [(1, wImport)] ++ [(4, quoB p)]) ++ [wSemi]) N := ⟨_, by
      have e : (K ++ [wSemi] ++ [(1, wImport)] ++ [(4, quoB p)]) ++ [wSemi] = K ++ [wSemi] ++ [(1, wImport)] ++ [(4, quoB p), wSemi] := by simp
      rw [e]; exact h5⟩
    obtain ⟨q', K', g1, g2⟩ := reach_A ps _ _ (fun x hx => hp x (List.mem_cons_of_mem _ hx)) h6
    exact ⟨q', K', g1, by rw [g2]; simp [il, aloneK, nmK]⟩
end
theorem first_let {nm : ByteArray} (ha : Aln nm) (h0 : nm ≠ ⟨#[]⟩) (hd : ¬ (48 ≤ byt nm 0 ∧ byt nm 0 ≤ 57)) : ∃ a w, nm.data.toList = a :: w ∧ letC a = true ∧ ∀ x ∈ w, wordC x = true := by
  cases hl : nm.data.toList with
  | nil => exact absurd (ba_ext hl) h0
  | cons a w =>
    have h1 := ha a (by rw [hl]; exact List.mem_cons_self)
    have h2 : byt nm 0 = a.toNat := by
      have h3 : Rest nm 0 (a :: w) := ⟨Nat.zero_le _, hl⟩
      exact h3.at_.2
    rw [h2] at hd
    refine ⟨a, w, rfl, ?_, fun x hx => alnC_word (ha x (by rw [hl]; exact List.mem_cons_of_mem _ hx))⟩
    unfold letC
    rw [alnC_word h1, Bool.true_and, Bool.not_eq_true', ← Bool.not_eq_true]
    intro h
    simp at h
    exact hd h
theorem list_ba {w : List UInt8} {nm : ByteArray} (h : nm.data.toList = w) : (⟨w.toArray⟩ : ByteArray) = nm := ba_ext (by rw [h])
theorem lex_A {s nm : ByteArray} {ps : List ByteArray} (hs : s.data.toList = textA nm ps) (ha : Aln nm) (h0 : nm ≠ ⟨#[]⟩) (hd : ¬ (48 ≤ byt nm 0 ∧ byt nm 0 ≤ 57)) (hk : joinsB nm = false) (hk4 : keyB nm = false) (hp : ∀ p ∈ ps, Aln p ∧ p ≠ ⟨#[]⟩) :
    (lexL s).map kt = (1, wPackage) :: (1, nm) :: wSemi :: (aloneK (il ps) ++ [(0, ⟨#[]⟩)]) ∧ lexM s = [] := by
  obtain ⟨a, w, hnm, hla, hw⟩ := first_let ha h0 hd
  have h1 := Rch.start s
  have e : s.data.toList = 112 :: [97, 99, 107, 97, 103, 101] ++ 32 :: (a :: w ++ 10 :: (ps.flatMap impA ++ [])) := by rw [hs]; simp [textA, hnm]
  rw [e] at h1
  have h2 := (h1.word (by decide) (fun x hx => word_package hx) (by decide) (by decide) (by decide)).bl (.inl rfl)
  have h3 := h2.word hla hw (by decide) (by decide) (by decide)
  rw [list_ba hnm] at h3
  have h4 := h3.lf1 (ends1 hk)
  obtain ⟨q', K', g1, g2⟩ := reach_A (R := []) ps _ [(1, wPackage), (1, nm)] hp h4
  have hsk : skN s = 0 := skN_first (c := 112) e (by decide)
  obtain ⟨r1, r2⟩ := g1.done hsk
  refine ⟨?_, r2⟩
  rw [r1, show (K' ++ [wSemi, (0, (⟨#[]⟩ : ByteArray))]) = (K' ++ [wSemi]) ++ [(0, ⟨#[]⟩)] by simp, g2]
  simp
section
variable {s : ByteArray} {R nt : List UInt8}
theorem dull_line (hn : ∀ c ∈ nt, alnC c = true) (q : Nat) : Dull (0, ⟨(47 :: 47 :: (32 :: nt)).toArray⟩, q) := by
  refine dull_of rfl (fun c hc => ?_)
  rcases List.mem_cons.1 (trimL_head hc) with rfl | h
  · decide
  · intro e; subst e; have := hn _ h; exact absurd this (by decide)
theorem dull_closed (hn : ∀ c ∈ nt, alnC c = true) (q : Nat) : Dull (0, ⟨(47 :: 42 :: (32 :: (nt ++ [32])) ++ [42, 47]).toArray⟩, q) := by
  have h : (47 :: 42 :: (32 :: (nt ++ [32])) ++ [42, 47] : List UInt8) = 47 :: 42 :: (32 :: (nt ++ [32, 42, 47])) := by simp
  rw [h]
  refine dull_of rfl (fun c hc => ?_)
  rcases List.mem_cons.1 (trimL_head hc) with rfl | h
  · decide
  · rcases List.mem_append.1 h with h | h
    · intro e; subst e; have := hn _ h; exact absurd this (by decide)
    · intro e; subst e; exact absurd h (by decide)
theorem low_note (hn : ∀ c ∈ nt, alnC c = true) : ∀ x ∈ 32 :: nt, lowC x = true := fun x hx => by
  rcases List.mem_cons.1 hx with rfl | h
  · decide
  · exact lowC_word (alnC_word (hn x h))
theorem low_note2 (hn : ∀ c ∈ nt, alnC c = true) : ∀ x ∈ 32 :: (nt ++ [32]), lowC x = true ∧ x ≠ 42 := fun x hx => by
  rcases List.mem_cons.1 hx with rfl | h
  · decide
  · rcases List.mem_append.1 h with h | h
    · refine ⟨lowC_word (alnC_word (hn x h)), fun e => ?_⟩
      subst e; have := hn _ h; exact absurd this (by decide)
    · rw [List.mem_singleton.1 h]; decide
theorem reach_N (hn : ∀ c ∈ nt, alnC c = true) : ∀ (ps : List ByteArray) (q : Nat) (K : List (Nat × ByteArray)) (N : List Tk), (∀ p ∈ ps, Aln p ∧ p ≠ ⟨#[]⟩) → (∀ t ∈ N, Dull t) → Rch s q (ps.flatMap (impN nt) ++ R) (K ++ [wSemi]) N →
    ∃ q' K' N', Rch s q' R (K' ++ [wSemi]) N' ∧ (∀ t ∈ N', Dull t) ∧ K' ++ [wSemi] = K ++ [wSemi] ++ aloneK (il ps)
  | [], q, K, N, hp, hN, h => ⟨q, K, N, by simpa using h, hN, by simp [il, aloneK]⟩
  | p :: ps, q, K, N, hp, hN, h => by
    obtain ⟨h1, _⟩ := hp p List.mem_cons_self
    have h2 : Rch s q (9 :: (47 :: 47 :: (32 :: nt) ++ 10 :: (105 :: [109, 112, 111, 114, 116] ++ 32 :: (47 :: 42 :: (32 :: (nt ++ [32])) ++ 42 :: 47 :: (32 :: (34 :: (p.data.toList ++ 34 :: (32 :: (47 :: 47 :: (32 :: nt) ++ 10 :: (10 :: (ps.flatMap (impN nt) ++ R))))))))))) (K ++ [wSemi]) N := by
      have e : ((p :: ps).flatMap (impN nt) ++ R : List UInt8) = 9 :: (47 :: 47 :: (32 :: nt) ++ 10 :: (105 :: [109, 112, 111, 114, 116] ++ 32 :: (47 :: 42 :: (32 :: (nt ++ [32])) ++ 42 :: 47 :: (32 :: (34 :: (p.data.toList ++ 34 :: (32 :: (47 :: 47 :: (32 :: nt) ++ 10 :: (10 :: (ps.flatMap (impN nt) ++ R)))))))))) := by simp [impN]
      rw [← e]; exact h
    have h3 := ((h2.bl (.inr rfl)).line (low_note hn)).lf0 (by decide)
    have h4 := ((h3.word (by decide) (fun x hx => word_import hx) (by decide) (by decide) (by decide)).bl (.inl rfl)).closed (low_note2 hn)
    have h5 := ((h4.bl (.inl rfl)).str (fun x hx => quoC_word (alnC_word (h1 x hx)))).bl (.inl rfl)
    have h6 := (h5.line (low_note hn)).lf1 (ends4 _)
    obtain ⟨q6, N6, hN6, h6⟩ := h6.hide (P := Dull) (by
      intro t ht
      rcases List.mem_append.1 ht with ht | ht
      · rcases List.mem_append.1 ht with ht | ht
        · rcases List.mem_append.1 ht with ht | ht
          · exact hN t ht
          · rw [List.mem_singleton.1 ht]; exact dull_line hn _
        · rw [List.mem_singleton.1 ht]; exact dull_closed hn _
      · rw [List.mem_singleton.1 ht]; exact dull_line hn _)
    have h7 : Rch s q6 (10 :: (ps.flatMap (impN nt) ++ R)) ((K ++ [wSemi] ++ [(1, wImport)] ++ [(4, quoB p)]) ++ [wSemi]) N6 := by
      have e : (K ++ [wSemi] ++ [(1, wImport)] ++ [(4, quoB p)]) ++ [wSemi] = K ++ [wSemi] ++ [(1, wImport)] ++ [(4, quoB p), wSemi] := by simp
      rw [e]; exact h6
    have h8 := h7.lf0 (by decide)
    obtain ⟨q', K', N', g1, g2, g3⟩ := reach_N hn ps _ _ _ (fun x hx => hp x (List.mem_cons_of_mem _ hx)) hN6 h8
    exact ⟨q', K', N', g1, g2, by rw [g3]; simp [il, aloneK, nmK]⟩
end
theorem lex_N {s nm : ByteArray} {nt : List UInt8} {ps : List ByteArray} (hs : s.data.toList = textN nm nt ps) (hn : ∀ c ∈ nt, alnC c = true) (ha : Aln nm) (h0 : nm ≠ ⟨#[]⟩) (hd : ¬ (48 ≤ byt nm 0 ∧ byt nm 0 ≤ 57)) (hk : joinsB nm = false) (hp : ∀ p ∈ ps, Aln p ∧ p ≠ ⟨#[]⟩) :
    (lexL s).map kt = (1, wPackage) :: (1, nm) :: wSemi :: (aloneK (il ps) ++ [(0, ⟨#[]⟩)]) ∧ ∀ t ∈ lexM s, Dull t := by
  obtain ⟨a, w, hnm, hla, hw⟩ := first_let ha h0 hd
  have h1 := Rch.start s
  have e : s.data.toList = 47 :: 47 :: (32 :: nt) ++ 10 :: (10 :: (47 :: 42 :: (32 :: (nt ++ [32])) ++ 42 :: 47 :: (32 :: (112 :: [97, 99, 107, 97, 103, 101] ++ 32 :: (47 :: 42 :: (32 :: (nt ++ [32])) ++ 42 :: 47 :: (32 :: (a :: w ++ 32 :: (47 :: 47 :: (32 :: nt) ++ 10 :: (10 :: (ps.flatMap (impN nt) ++ [])))))))))) := by rw [hs]; simp [textN, headN, hnm]
  rw [e] at h1
  have h2 := (((h1.line (low_note hn)).lfn.lfn.closed (low_note2 hn)).bl (.inl rfl)).word (by decide) (fun x hx => word_package hx) (by decide) (by decide) (by decide)
  have h3 := ((((h2.bl (.inl rfl)).closed (low_note2 hn)).bl (.inl rfl)).word hla hw (by decide) (by decide) (by decide)).bl (.inl rfl)
  rw [list_ba hnm] at h3
  have h4 := (h3.line (low_note hn)).lf1 (ends1 hk)
  obtain ⟨q5, N5, hN5, h4⟩ := h4.hide (P := Dull) (by
    intro t ht
    rcases List.mem_append.1 ht with ht | ht
    · rcases List.mem_append.1 ht with ht | ht
      · rcases List.mem_append.1 ht with ht | ht
        · rcases List.mem_append.1 ht with ht | ht
          · cases ht
          · rw [List.mem_singleton.1 ht]; exact dull_line hn _
        · rw [List.mem_singleton.1 ht]; exact dull_closed hn _
      · rw [List.mem_singleton.1 ht]; exact dull_closed hn _
    · rw [List.mem_singleton.1 ht]; exact dull_line hn _)
  have h5 : Rch s q5 (10 :: (ps.flatMap (impN nt) ++ [])) ([(1, wPackage), (1, nm)] ++ [wSemi]) N5 := h4
  have h6 := h5.lf0 (by decide)
  obtain ⟨q', K', N', g1, g2, g3⟩ := reach_N (R := []) hn ps _ [(1, wPackage), (1, nm)] _ hp hN5 h6
  have hsk : skN s = 0 := skN_first (c := 47) e (by decide)
  obtain ⟨r1, r2⟩ := g1.done hsk
  refine ⟨?_, by rw [r2]; exact g2⟩
  rw [r1, show (K' ++ [wSemi, (0, (⟨#[]⟩ : ByteArray))]) = (K' ++ [wSemi]) ++ [(0, ⟨#[]⟩)] by simp, g3]
  simp
end Go.Proofs.YtejogobhnbjpdaaDoor
