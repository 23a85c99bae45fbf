/- Theory: the header of HeaderMakes' text. -/
import Derived.Test.YtejogobhnbjpdaaDoorXr
namespace Go.Proofs.YtejogobhnbjpdaaDoor
set_option linter.unusedVariables false
set_option linter.unusedSimpArgs false
open Go.ChangeShapes Go.WideShapes Go.ChangeAt Go.RowKit

/-- How far a text was gone through, its tokens ahead of that place. -/
def Rcq (s : ByteArray) (q : Nat) (X : List UInt8) (K : List (Nat × ByteArray)) (N : List Tk) : Prop := ∃ l, lexT s 0 [] [] = lexT s q l N ∧ l.map kt = K ∧ Rest s q X ∧ ∀ t ∈ l, t.2.2 < q
theorem Rcq.start (s : ByteArray) : Rcq s 0 s.data.toList [] [] := ⟨[], rfl, rfl, Rest.start s, fun t h => by cases h⟩
theorem lt_snoc {l : List Tk} {t : Tk} {q q' : Nat} (h : ∀ t ∈ l, t.2.2 < q) (hq : q ≤ q') (ht : t.2.2 < q') : ∀ u ∈ l ++ [t], u.2.2 < q' := fun u hu => by
  rcases List.mem_append.1 hu with hu | hu
  · have := h u hu; omega
  · rw [List.mem_singleton.1 hu]; exact ht
section
variable {s : ByteArray} {q : Nat} {K : List (Nat × ByteArray)} {N : List Tk} {R : List UInt8}
theorem Rcq.word {a c : UInt8} {w : List UInt8} (h : Rcq s q (a :: w ++ c :: R) K N) (ha : letC a = true) (hw : ∀ x ∈ w, wordC x = true) (h0 : 0 < c.toNat) (h1 : c.toNat < 128) (hc : wordC c = false) :
    Rcq s (q + (a :: w).length) (c :: R) (K ++ [(1, ⟨(a :: w).toArray⟩)]) N := by
  obtain ⟨l, e1, e2, e3, e4⟩ := h
  exact ⟨_, e1.trans (go_word e3 ha hw h0 h1 hc l N), by rw [List.map_append, e2]; rfl, Rest.app (w := a :: w) e3, lt_snoc e4 (by omega) (by show q < q + (w.length + 1); omega)⟩
theorem Rcq.bl {c : UInt8} (h : Rcq s q (c :: R) K N) (hc : c = 32 ∨ c = 9) : Rcq s (q + 1) R K N := by
  obtain ⟨l, e1, e2, e3, e4⟩ := h
  exact ⟨_, e1.trans (go_bl e3 hc l N), e2, e3.tail, fun t ht => by have := e4 t ht; omega⟩
theorem Rcq.str {w : List UInt8} (h : Rcq s q (34 :: (w ++ 34 :: R)) K N) (hw : ∀ x ∈ w, quoC x = true) : Rcq s (q + (w.length + 2)) R (K ++ [(4, ⟨(34 :: (w ++ [34])).toArray⟩)]) N := by
  obtain ⟨l, e1, e2, e3, e4⟩ := h
  refine ⟨_, e1.trans (go_str e3 hw l N), by rw [List.map_append, e2]; rfl, ?_, lt_snoc e4 (by omega) (by show q < q + (w.length + 2); omega)⟩
  have h2 : Rest s q ((34 :: (w ++ [34])) ++ R) := by simpa using e3
  have := h2.app
  simpa using this
theorem Rcq.sign {c : UInt8} (h : Rcq s q (c :: R) K N) (hc : c = 40 ∨ c = 41 ∨ (c = 46 ∧ ∃ R', R = 32 :: R')) : Rcq s (q + 1) R (K ++ [(5, ⟨#[c]⟩)]) N := by
  obtain ⟨l, e1, e2, e3, e4⟩ := h
  exact ⟨_, e1.trans (go_sign e3 hc l N), by rw [List.map_append, e2]; rfl, e3.tail, lt_snoc e4 (by omega) (by show q < q + 1; omega)⟩
theorem Rcq.line {w : List UInt8} (h : Rcq s q (47 :: 47 :: w ++ 10 :: R) K N) (hw : ∀ x ∈ w, lowC x = true) : Rcq s (q + (47 :: 47 :: w).length) (10 :: R) K (N ++ [(0, ⟨(47 :: 47 :: w).toArray⟩, q)]) := by
  obtain ⟨l, e1, e2, e3, e4⟩ := h
  exact ⟨_, e1.trans (go_line e3 hw l N), e2, Rest.app (w := 47 :: 47 :: w) e3, fun t ht => by have := e4 t ht; omega⟩
theorem Rcq.lf1 {a : Nat × ByteArray} (h : Rcq s q (10 :: R) (K ++ [a]) N) (ha : endsB (a.1, a.2, 0) = true) : Rcq s (q + 1) R (K ++ [a, wSemi]) N := by
  obtain ⟨l, e1, e2, e3, e4⟩ := h
  obtain ⟨l0, t, rfl, h1, h2⟩ := last_of e2
  have e5 : (l0 ++ [t, (6, (⟨#[]⟩ : ByteArray), q)] : List Tk) = (l0 ++ [t]) ++ [(6, ⟨#[]⟩, q)] := by simp
  have hf := feed_on (l := l0) (t := t) (by rw [ends_kt h1 h2]; exact ha) q
  rw [e5] at hf
  refine ⟨(l0 ++ [t]) ++ [(6, ⟨#[]⟩, q)], e1.trans (by rw [← hf]; exact go_lf e3 _ N), ?_, e3.tail, lt_snoc e4 (by omega) (by show q < q + 1; omega)⟩
  rw [List.map_append, e2]
  simp [kt, wSemi]
theorem Rcq.lf0 {a : Nat × ByteArray} (h : Rcq s q (10 :: R) (K ++ [a]) N) (ha : endsB (a.1, a.2, 0) = false) : Rcq s (q + 1) R (K ++ [a]) N := by
  obtain ⟨l, e1, e2, e3, e4⟩ := h
  obtain ⟨l0, t, rfl, h1, h2⟩ := last_of e2
  refine ⟨l0 ++ [t], e1.trans ?_, e2, e3.tail, fun t ht => by have := e4 t ht; omega⟩
  have := go_lf e3 (l0 ++ [t]) N
  rwa [feed_off (by rw [ends_kt h1 h2]; exact ha)] at this
theorem Rcq.lfn (h : Rcq s q (10 :: R) [] N) : Rcq s (q + 1) R [] N := by
  obtain ⟨l, e1, e2, e3, e4⟩ := h
  have hl : l = [] := by simpa using e2
  subst hl
  exact ⟨[], e1.trans (go_lf e3 _ N), rfl, e3.tail, fun t h => by cases h⟩
end
theorem Rcq.ex {s : ByteArray} {q : Nat} {X : List UInt8} {K : List (Nat × ByteArray)} {N : List Tk} (h : Rcq s q X K N) : ∃ q, Rcq s q X K N := ⟨_, h⟩
theorem lexT_toks (s : ByteArray) : ∀ q l m, q ≤ s.size → ∃ y, (lexT s q l m).1 = l ++ y ∧ ∀ t ∈ y, q ≤ t.2.2 := by
  have hf : ∀ (l : List Tk) (p : Nat), ∃ x, feedL l p = l ++ x ∧ ∀ t ∈ x, p ≤ t.2.2 := fun l p => by
    obtain ⟨x, h1, h2⟩ := feedL_app2 l p
    exact ⟨x, h1, fun t ht => Nat.le_of_eq (h2 t ht).2.symm⟩
  refine lex_ind s _ ?_ ?_ ?_
  · intro q l m h hq
    rw [lexT_out h]
    obtain ⟨x, h1, h2⟩ := hf l s.size
    refine ⟨x ++ [(0, ⟨#[]⟩, s.size)], by show feedL l s.size ++ _ = _; rw [h1, List.append_assoc], fun t ht => ?_⟩
    rcases List.mem_append.1 ht with ht | ht
    · have := h2 t ht; omega
    · rw [List.mem_singleton.1 ht]; exact hq
  · intro q l m f h ht hq
    rw [lexT_bad h ht]
    exact ⟨_, rfl, fun t hm => by rw [List.mem_singleton.1 hm]; exact ((thing_ends h).1 f ht).1⟩
  · intro q l m h hok ih hq
    rw [lexT_step h hok]
    have he := (thing_ends h).2 hok
    obtain ⟨y, hy, hy2⟩ := ih he.2.1
    obtain ⟨x, hx, hx2⟩ : ∃ x, lNext s q l (thing s q) = l ++ x ∧ ∀ t ∈ x, q ≤ t.2.2 := by
      revert hok
      cases thing s q with
      | bad f => intro hok; cases hok
      | lf => intro _; exact hf l q
      | blank => intro _; exact ⟨[], by simp [lNext], by simp⟩
      | note e =>
        intro _
        show ∃ x, (if hasLF s q e = true then feedL l q else l) = _ ∧ _
        split
        · exact hf l q
        · exact ⟨[], by simp, by simp⟩
      | tok k e => intro _; exact ⟨_, rfl, fun t ht => by rw [List.mem_singleton.1 ht]; exact Nat.le_refl q⟩
    refine ⟨x ++ y, by rw [hy, hx, List.append_assoc], fun t ht => ?_⟩
    rcases List.mem_append.1 ht with ht | ht
    · exact hx2 t ht
    · have := hy2 t ht; omega

/-! What directives say. -/
theorem trim_word {w : List UInt8} (h : ∀ c ∈ w, alnC c = true) (h0 : w ≠ []) : Lib.trimS (32 :: w) [32, 9, 13] = w := by
  have hno : ∀ c, alnC c = true → ([32, 9, 13] : List UInt8).contains c = false := fun c hc => aln_not hc (by decide)
  have h1 : Lib.trimRightS (32 :: w) [32, 9, 13] = 32 :: w := by
    unfold Lib.trimRightS
    rw [List.reverse_cons]
    cases hr : w.reverse with
    | nil => exact absurd (List.reverse_eq_nil_iff.1 hr) h0
    | cons c r =>
      have hc : c ∈ w := by rw [← List.mem_reverse, hr]; exact List.mem_cons_self
      rw [List.cons_append, List.dropWhile_cons, if_neg (by rw [hno c (h c hc)]; exact Bool.noConfusion), ← List.cons_append, ← hr, ← List.reverse_cons, List.reverse_reverse]
  unfold Lib.trimS
  rw [h1]
  unfold Lib.trimLeftS
  rw [List.dropWhile_cons, if_pos (by decide)]
  cases w with
  | nil => rfl
  | cons c r => rw [List.dropWhile_cons, if_neg (by rw [hno c (h c List.mem_cons_self)]; exact Bool.noConfusion)]
theorem dir_word {p x w : ByteArray} (hx : x.data.toList = p.data.toList ++ 32 :: w.data.toList) (h : Aln w) (h0 : w ≠ ⟨#[]⟩) : dirR x p = (w, true) := by
  have hp : Lib.hasPrefix x.data.toList p.data.toList = true := by
    rw [hx]; unfold Lib.hasPrefix
    exact List.isPrefixOf_iff_prefix.2 (List.prefix_append _ _)
  have hc : (cutB x p).data.toList = 32 :: w.data.toList := by
    unfold cutB Lib.trimPrefix
    rw [hp]
    simp [hx]
  have hs : 0 < (cutB x p).size := by rw [Lib.size_eq, hc]; simp
  have h32 : (cutB x p)[0] = 32 := by
    have h3 : (cutB x p).data.toList[0]? = some 32 := by rw [hc]; rfl
    have h4 := byt_list hs
    rw [h3] at h4
    injection h4 with h4
    rw [get_is _ _ hs] at h4
    exact h4.symm
  have ht : trimB (cutB x p) = w := by
    apply ba_ext
    unfold trimB
    show Lib.trimS (cutB x p).data.toList [32, 9, 13] = _
    rw [hc]
    exact trim_word h (fun e => h0 (ba_ext e))
  unfold dirR
  rw [hp, if_pos rfl, dif_pos hs, if_pos (.inl h32), ht]
theorem pats_word {p : ByteArray} (h : Aln p) (h0 : p ≠ ⟨#[]⟩) : patsGo p [] = some [p] := by
  have hs : 0 < p.size := by
    rcases Nat.eq_zero_or_pos p.size with e | e
    · exact absurd (ba_ext (List.eq_nil_of_length_eq_zero (by rw [← Lib.size_eq]; exact e))) h0
    · exact e
  have hc : p[0] ∈ p.data.toList := by
    have := byt_list hs
    rw [get_is _ _ hs] at this
    exact List.mem_of_getElem? this
  have ha := alnC_le (h _ hc)
  have h34 : p[0] ≠ 34 ∧ p[0] ≠ 96 := ⟨fun e => by rw [e] at ha; exact absurd ha.1 (by decide), fun e => by rw [e] at ha; exact absurd rfl ha.2.2.2.1⟩
  have hw : wordN p = p.size := by
    unfold wordN
    rw [any_no _ (fun c hc => aln_not (h c hc) (by decide)), if_pos (by decide)]
  have he : p.extract 0 p.size = p := by
    apply ba_ext
    rw [Lib.extract_data, Nat.sub_zero, List.drop_zero, Lib.size_eq, List.take_length]
  have he2 : (p.extract p.size p.size).data.toList = [] := by
    rw [Lib.extract_data]; simp
  have hp : patR p p[0] = (p, p.extract p.size p.size, true) := by
    unfold patR
    rw [if_pos h34, hw, he]
  have ht : trimLB (p.extract p.size p.size) = ⟨#[]⟩ := by
    apply ba_ext
    unfold trimLB
    rw [he2]; rfl
  have e0 : patsGo ⟨#[]⟩ [p] = some [p] := by rw [patsGo, dif_neg (by decide)]
  rw [patsGo, dif_pos hs, hp, if_pos rfl, ht, dif_pos (by show 0 < p.size; exact hs)]
  exact e0
def txtE (p : ByteArray) : List UInt8 := [47, 47, 103, 111, 58, 101, 109, 98, 101, 100, 32] ++ p.data.toList
def txtB (b : ByteArray) : List UInt8 := [47, 47, 103, 111, 58, 98, 117, 105, 108, 100, 32] ++ b.data.toList
theorem emb_word {p : ByteArray} (h : Aln p) (h0 : p ≠ ⟨#[]⟩) : embD ⟨(txtE p).toArray⟩ = (p, true) := by
  unfold embD
  have hb : behind ⟨(txtE p).toArray⟩ = ⟨([103, 111, 58, 101, 109, 98, 101, 100, 32] ++ p.data.toList).toArray⟩ := behind_two
  rw [hb]
  exact dir_word (by simp) h h0
theorem build_word {b : ByteArray} (h : Aln b) (h0 : b ≠ ⟨#[]⟩) : buildD ⟨(txtB b).toArray⟩ = (b, true) := by
  unfold buildD
  have hb : behind ⟨(txtB b).toArray⟩ = ⟨([103, 111, 58, 98, 117, 105, 108, 100, 32] ++ b.data.toList).toArray⟩ := behind_two
  rw [hb]
  exact dir_word (by simp) h h0
/-- Comments of patterns, between two places, each at the beginning of a line. -/
def EmbY (s : ByteArray) (q q' : Nat) : List ByteArray → List Tk → Prop
  | [], [] => True
  | p :: ps, t :: Y => t.2.1 = ⟨(txtE p).toArray⟩ ∧ q ≤ t.2.2 ∧ t.2.2 < q' ∧ 0 < t.2.2 ∧ t.2.2 ≤ s.size ∧ byt s (t.2.2 - 1) = 10 ∧ EmbY s q q' ps Y
  | _, _ => False
theorem EmbY.le {s : ByteArray} {q q2 q' q3 : Nat} (h1 : q ≤ q2) (h2 : q' ≤ q3) : ∀ {ps : List ByteArray} {Y : List Tk}, EmbY s q2 q' ps Y → EmbY s q q3 ps Y
  | [], [], _ => trivial
  | p :: ps, t :: Y, h => ⟨h.1, Nat.le_trans h1 h.2.1, Nat.lt_of_lt_of_le h.2.2.1 h2, h.2.2.2.1, h.2.2.2.2.1, h.2.2.2.2.2.1, EmbY.le h1 h2 h.2.2.2.2.2.2⟩
  | [], _ :: _, h => h.elim
  | _ :: _, [], h => h.elim
theorem EmbY.mem {s : ByteArray} {q q' : Nat} : ∀ {ps : List ByteArray} {Y : List Tk}, EmbY s q q' ps Y → ∀ t ∈ Y, q ≤ t.2.2 ∧ t.2.2 < q' ∧ 0 < t.2.2 ∧ t.2.2 ≤ s.size ∧ byt s (t.2.2 - 1) = 10 ∧ ∃ p ∈ ps, t.2.1 = ⟨(txtE p).toArray⟩
  | [], [], _, t, ht => by cases ht
  | p :: ps, u :: Y, h, t, ht => by
    rcases List.mem_cons.1 ht with rfl | ht
    · exact ⟨h.2.1, h.2.2.1, h.2.2.2.1, h.2.2.2.2.1, h.2.2.2.2.2.1, p, List.mem_cons_self, h.1⟩
    · obtain ⟨a, b, c, d, e, x, hx, f⟩ := EmbY.mem h.2.2.2.2.2.2 t ht
      exact ⟨a, b, c, d, e, x, List.mem_cons_of_mem _ hx, f⟩
  | [], _ :: _, h, t, ht => h.elim
  | _ :: _, [], h, t, ht => h.elim
theorem embGo_is {s : ByteArray} {q q' : Nat} : ∀ {ps : List ByteArray} {Y : List Tk} (E : List ByteArray), EmbY s q q' ps Y → (∀ p ∈ ps, Aln p ∧ p ≠ ⟨#[]⟩) → embGo Y E = (none, E ++ ps)
  | [], [], E, _, _ => by rw [List.append_nil]; rfl
  | p :: ps, t :: Y, E, h, hp => by
    obtain ⟨h1, h2⟩ := hp p List.mem_cons_self
    have he : embD t.2.1 = (p, true) := by rw [h.1]; exact emb_word h1 h2
    rw [embGo, he, if_neg (by simp), pats_word h1 h2]
    show (if 0 < [p].length then embGo Y (E ++ [p]) else _) = _
    rw [if_pos (show 0 < [p].length from Nat.succ_pos _), embGo_is (E ++ [p]) h.2.2.2.2.2.2 (fun x hx => hp x (List.mem_cons_of_mem _ hx)), List.append_assoc]; rfl
  | [], _ :: _, E, h, _ => h.elim
  | _ :: _, [], E, h, _ => h.elim
theorem alone_lf {s : ByteArray} {t : Tk} (h0 : 0 < t.2.2) (hs : t.2.2 ≤ s.size) (hb : byt s (t.2.2 - 1) = 10) (ht : Lib.hasPrefix t.2.1.data.toList [47, 47] = true) : aloneB s t = true := by
  have hz : (s.extract 0 t.2.2).size = t.2.2 := by rw [ByteArray.size_extract]; omega
  have hl : Lib.lastIndexByte (s.extract 0 t.2.2) 10 = ((t.2.2 - 1 : Nat) : Int) := by
    have hx : ∀ i, ((s.extract 0 t.2.2).data[i]!).toNat = byt (s.extract 0 t.2.2) i := fun i => rfl
    rcases Lib.lastIdx_spec (s.extract 0 t.2.2) 10 (s.extract 0 t.2.2).size with ⟨_, h⟩ | ⟨i, hi, he, hc, hn⟩
    · exfalso
      have := h (t.2.2 - 1) (by omega)
      rw [hx, byt_ext hs (by omega), hb] at this
      exact this rfl
    · unfold Lib.lastIndexByte
      rw [he]
      rcases Nat.lt_or_ge i (t.2.2 - 1) with h | h
      · exfalso
        have := hn (t.2.2 - 1) h (by omega)
        rw [hx, byt_ext hs (by omega), hb] at this
        exact this rfl
      · congr 1; omega
  have hln : lineN (s.extract 0 t.2.2) = t.2.2 := by
    unfold lineN
    rw [hl, if_neg (by omega), Int.toNat_natCast]; omega
  have hlb : lineB (s.extract 0 t.2.2) = ⟨#[]⟩ := by
    apply ba_ext
    unfold lineB
    rw [hln, hz, Lib.extract_data]; simp
  unfold aloneB
  rw [ht, hlb]; rfl
theorem alone_zero {s : ByteArray} {t : Tk} (h0 : t.2.2 = 0) (ht : Lib.hasPrefix t.2.1.data.toList [47, 47] = true) : aloneB s t = true := by
  have he : s.extract 0 t.2.2 = ⟨#[]⟩ := by
    apply ba_ext
    rw [h0, Lib.extract_data]; simp
  unfold aloneB
  rw [ht, he]; rfl
theorem pre_txtE (p : ByteArray) : Lib.hasPrefix (⟨(txtE p).toArray⟩ : ByteArray).data.toList [47, 47] = true := by simp [txtE, Lib.hasPrefix, List.isPrefixOf]
theorem pre_txtB (p : ByteArray) : Lib.hasPrefix (⟨(txtB p).toArray⟩ : ByteArray).data.toList [47, 47] = true := by simp [txtB, Lib.hasPrefix, List.isPrefixOf]

/-! The text's pieces. -/
def impS (x : Nat × ByteArray) : List UInt8 := nmS x.1 ++ ([34] ++ (x.2.data.toList ++ [34, 10]))
def impL (x : Nat × ByteArray) : List UInt8 := [105, 109, 112, 111, 114, 116, 32] ++ impS x
def embS (p : ByteArray) : List UInt8 := txtE p ++ [10]
def bldS (b : ByteArray) : List UInt8 := if b = ⟨#[]⟩ then [] else txtB b ++ [10, 10]
def impsS (g : Bool) (l : Il) : List UInt8 := if g = true then [105, 109, 112, 111, 114, 116, 32, 40, 10] ++ (l.flatMap impS ++ [41, 10]) else l.flatMap impL
def textM (nm b : ByteArray) (l : Il) (ps : List ByteArray) (g : Bool) : List UInt8 :=
  bldS b ++ ([112, 97, 99, 107, 97, 103, 101, 32] ++ (nm.data.toList ++ ([10, 10] ++ (impsS g l ++ (ps.flatMap embS ++ [118, 97, 114, 32, 120, 32, 105, 110, 116, 10])))))
def impsK (g : Bool) (l : Il) : List (Nat × ByteArray) := if g = true then (1, wImport) :: (5, ⟨#[40]⟩) :: (groupK l ++ [(5, ⟨#[41]⟩), wSemi]) else aloneK l
section
variable {s : ByteArray} {R : List UInt8} {N : List Tk}
theorem reach_nm {q c : Nat} {p : ByteArray} {K : List (Nat × ByteArray)} (hp : Aln p) (h : Rcq s q (impS (c, p) ++ R) K N) : ∃ q', Rcq s q' R (K ++ nmK c ++ [(4, quoB p)] ++ [wSemi]) N := by
  have key : ∀ (q : Nat) (K : List (Nat × ByteArray)), Rcq s q (34 :: (p.data.toList ++ 34 :: (10 :: R))) K N → ∃ q', Rcq s q' R (K ++ [(4, quoB p)] ++ [wSemi]) N := fun q K h => by
    have h1 := (h.str (fun x hx => quoC_word (alnC_word (hp x hx)))).lf1 (ends4 _)
    obtain ⟨q9, h1⟩ := h1.ex
    refine ⟨q9, ?_⟩
    have e : (K ++ [(4, quoB p)] ++ [wSemi]) = K ++ [(4, quoB p), wSemi] := by simp
    rw [e]; exact h1
  have h : Rcq s q (nmS c ++ (34 :: (p.data.toList ++ 34 :: (10 :: R)))) K N := by
    have e : impS (c, p) ++ R = nmS c ++ (34 :: (p.data.toList ++ 34 :: (10 :: R))) := by simp [impS]
    rw [← e]; exact h
  unfold nmS at h
  unfold nmK
  by_cases c1 : c = 1
  · rw [if_pos c1] at h ⊢
    have h2 : Rcq s q (95 :: [] ++ 32 :: (34 :: (p.data.toList ++ 34 :: (10 :: R)))) K N := h
    exact key _ _ ((h2.word (by decide) (by simp) (by decide) (by decide) (by decide)).bl (.inl rfl))
  · rw [if_neg c1] at h ⊢
    by_cases c2 : c = 2
    · rw [if_pos c2] at h ⊢
      have h2 : Rcq s q (46 :: (32 :: (34 :: (p.data.toList ++ 34 :: (10 :: R))))) K N := h
      exact key _ _ ((h2.sign (.inr (.inr ⟨rfl, _, rfl⟩))).bl (.inl rfl))
    · rw [if_neg c2] at h ⊢
      by_cases c3 : c = 3
      · rw [if_pos c3] at h ⊢
        have h2 : Rcq s q (110 :: [] ++ 32 :: (34 :: (p.data.toList ++ 34 :: (10 :: R)))) K N := h
        exact key _ _ ((h2.word (by decide) (by simp) (by decide) (by decide) (by decide)).bl (.inl rfl))
      · rw [if_neg c3] at h ⊢
        rw [List.append_nil]
        exact key _ _ h
theorem reach_alone : ∀ (l : Il) (q : Nat) (K : List (Nat × ByteArray)), GoodI l → Rcq s q (l.flatMap impL ++ R) (K ++ [wSemi]) N → ∃ q' K', Rcq s q' R (K' ++ [wSemi]) N ∧ K' ++ [wSemi] = K ++ [wSemi] ++ aloneK l
  | [], q, K, hg, h => ⟨q, K, by simpa using h, by simp [aloneK]⟩
  | x :: l, q, K, hg, h => by
    have h2 : Rcq s q (105 :: [109, 112, 111, 114, 116] ++ 32 :: (impS x ++ (l.flatMap impL ++ R))) (K ++ [wSemi]) N := by
      have e : ((x :: l).flatMap impL ++ R : List UInt8) = 105 :: [109, 112, 111, 114, 116] ++ 32 :: (impS x ++ (l.flatMap impL ++ R)) := by simp [impL]
      rw [← e]; exact h
    have h3 := (h2.word (by decide) (fun x hx => word_import hx) (by decide) (by decide) (by decide)).bl (.inl rfl)
    obtain ⟨q3, h4⟩ := reach_nm (c := x.1) (p := x.2) (hg x List.mem_cons_self).1 h3
    obtain ⟨q', K', g1, g2⟩ := reach_alone l q3 _ hg.tail h4
    exact ⟨q', K', g1, by rw [g2]; simp [aloneK]⟩
theorem reach_group : ∀ (l : Il) (q : Nat) (K : List (Nat × ByteArray)), GoodI l → Rcq s q (l.flatMap impS ++ R) K N → ∃ q', Rcq s q' R (K ++ groupK l) N
  | [], q, K, hg, h => ⟨q, by simpa [groupK] using h⟩
  | x :: l, q, K, hg, h => by
    have h2 : Rcq s q (impS x ++ (l.flatMap impS ++ R)) K N := by
      have e : ((x :: l).flatMap impS ++ R : List UInt8) = impS x ++ (l.flatMap impS ++ R) := by simp
      rw [← e]; exact h
    obtain ⟨q3, h4⟩ := reach_nm (c := x.1) (p := x.2) (hg x List.mem_cons_self).1 h2
    obtain ⟨q', g1⟩ := reach_group l q3 _ hg.tail h4
    exact ⟨q', by rw [show K ++ groupK (x :: l) = K ++ nmK x.1 ++ [(4, quoB x.2)] ++ [wSemi] ++ groupK l by simp [groupK]]; exact g1⟩
theorem reach_imps {g : Bool} {l : Il} {q : Nat} {K : List (Nat × ByteArray)} (hg : GoodI l) (h : Rcq s q (impsS g l ++ R) (K ++ [wSemi]) N) : ∃ q' K', Rcq s q' R (K' ++ [wSemi]) N ∧ K' ++ [wSemi] = K ++ [wSemi] ++ impsK g l := by
  cases g with
  | false => exact reach_alone l q K hg h
  | true =>
    have h2 : Rcq s q (105 :: [109, 112, 111, 114, 116] ++ 32 :: (40 :: (10 :: (l.flatMap impS ++ (41 :: (10 :: R)))))) (K ++ [wSemi]) N := by
      have e : (impsS true l ++ R : List UInt8) = 105 :: [109, 112, 111, 114, 116] ++ 32 :: (40 :: (10 :: (l.flatMap impS ++ (41 :: (10 :: R))))) := by simp [impsS]
      rw [← e]; exact h
    have h3 := ((h2.word (by decide) (fun x hx => word_import hx) (by decide) (by decide) (by decide)).bl (.inl rfl)).sign (.inl rfl)
    have h4 := h3.lf0 (by decide)
    obtain ⟨q5, h5⟩ := reach_group l _ _ hg h4
    have h6 := (h5.sign (.inr (.inl rfl))).lf1 (by decide)
    obtain ⟨q9, h6⟩ := h6.ex
    refine ⟨q9, K ++ [wSemi] ++ [(1, wImport)] ++ [(5, ⟨#[40]⟩)] ++ groupK l ++ [(5, ⟨#[41]⟩)], ?_, ?_⟩
    · have e : ∀ (A : List (Nat × ByteArray)) a b, A ++ [a] ++ [b] = A ++ [a, b] := fun A a b => by simp
      rw [e]
      exact h6
    · simp [impsK]
theorem reach_emb : ∀ (ps : List ByteArray) (q : Nat) (K : List (Nat × ByteArray)) (N : List Tk), (∀ p ∈ ps, Aln p ∧ p ≠ ⟨#[]⟩) → 0 < q → byt s (q - 1) = 10 → Rcq s q (ps.flatMap embS ++ R) (K ++ [wSemi]) N →
    ∃ q' Y, q ≤ q' ∧ Rcq s q' R (K ++ [wSemi]) (N ++ Y) ∧ EmbY s q q' ps Y
  | [], q, K, N, hp, h0, hb, h => ⟨q, [], Nat.le_refl _, by simpa using h, trivial⟩
  | p :: ps, q, K, N, hp, h0, hb, h => by
    obtain ⟨h1, _⟩ := hp p List.mem_cons_self
    have h2 : Rcq s q (47 :: 47 :: ([103, 111, 58, 101, 109, 98, 101, 100, 32] ++ p.data.toList) ++ 10 :: (ps.flatMap embS ++ R)) (K ++ [wSemi]) N := by
      have e : ((p :: ps).flatMap embS ++ R : List UInt8) = 47 :: 47 :: ([103, 111, 58, 101, 109, 98, 101, 100, 32] ++ p.data.toList) ++ 10 :: (ps.flatMap embS ++ R) := by simp [embS, txtE]
      rw [← e]; exact h
    have hq : q ≤ s.size := by obtain ⟨l, _, _, e3, _⟩ := h2; exact e3.1
    have h3 := h2.line (fun x hx => by
      rcases List.mem_append.1 hx with hx | hx
      · have : ∀ x ∈ ([103, 111, 58, 101, 109, 98, 101, 100, 32] : List UInt8), lowC x = true := by decide
        exact this x hx
      · exact lowC_word (alnC_word (h1 x hx)))
    have hbl : byt s (q + (47 :: 47 :: ([103, 111, 58, 101, 109, 98, 101, 100, 32] ++ p.data.toList)).length) = 10 := by obtain ⟨l, _, _, e3, _⟩ := h3; exact e3.at_.2
    have h4 := h3.lf0 (by decide)
    have hlen : 0 < (47 :: 47 :: ([103, 111, 58, 101, 109, 98, 101, 100, 32] ++ p.data.toList) : List UInt8).length := Nat.succ_pos _
    generalize (47 :: 47 :: ([103, 111, 58, 101, 109, 98, 101, 100, 32] ++ p.data.toList) : List UInt8).length = n at *
    obtain ⟨q', Y, g1, g2, g3⟩ := reach_emb ps (q + n + 1) K _ (fun x hx => hp x (List.mem_cons_of_mem _ hx)) (Nat.succ_pos _) hbl h4
    refine ⟨q', (0, ⟨(txtE p).toArray⟩, q) :: Y, by omega, ?_, rfl, Nat.le_refl _, by show q < q'; omega, h0, hq, hb, g3.le (by omega) (Nat.le_refl _)⟩
    have e : N ++ (0, ⟨(txtE p).toArray⟩, q) :: Y = N ++ [(0, ⟨(txtE p).toArray⟩, q)] ++ Y := by simp
    rw [e]; exact g2
end
theorem Rest.len {s : ByteArray} {q : Nat} {X : List UInt8} (h : Rest s q X) : q + X.length = s.size := by
  have := congrArg List.length h.2
  rw [List.length_drop, ← Lib.size_eq] at this
  have := h.1
  omega
theorem Rcq.rest {s : ByteArray} {q : Nat} {X : List UInt8} {K : List (Nat × ByteArray)} {N : List Tk} (h : Rcq s q X K N) : Rest s q X := by obtain ⟨_, _, _, h, _⟩ := h; exact h
theorem Rest.lf {s : ByteArray} {q : Nat} {P X : List UInt8} (h : Rest s q X) (hs : s.data.toList = P ++ 10 :: X) : 0 < q ∧ byt s (q - 1) = 10 := by
  have hl := h.len
  have hz : s.size = P.length + 1 + X.length := by rw [Lib.size_eq, hs, List.length_append, List.length_cons]; omega
  obtain rfl : q = P.length + 1 := by omega
  have h2 : Rest s P.length (10 :: X) := ⟨by omega, by rw [hs, List.drop_left]⟩
  exact ⟨Nat.succ_pos _, h2.at_.2⟩
theorem imps_end (g : Bool) (l : Il) : impsS g l = [] ∨ ∃ P, impsS g l = P ++ [10] := by
  cases g with
  | true => exact .inr ⟨[105, 109, 112, 111, 114, 116, 32, 40, 10] ++ (l.flatMap impS ++ [41]), by simp [impsS]⟩
  | false =>
    cases hl : l.getLast? with
    | none =>
      rw [List.getLast?_eq_none_iff] at hl
      subst hl; exact .inl rfl
    | some x =>
      obtain ⟨l0, rfl⟩ := List.getLast?_eq_some_iff.1 hl
      refine .inr ⟨l0.flatMap impL ++ ([105, 109, 112, 111, 114, 116, 32] ++ (nmS x.1 ++ ([34] ++ (x.2.data.toList ++ [34])))), ?_⟩
      show (l0 ++ [x]).flatMap impL = _
      rw [List.flatMap_append, List.flatMap_singleton]
      simp [impL, impS]
/-- HeaderMakes: what the text is read as. -/
theorem parse_makes {s nm b : ByteArray} {l : Il} {ps : List ByteArray} {g : Bool} (hs : s.data.toList = textM nm b l ps g) (ha : Aln nm) (h0 : nm ≠ ⟨#[]⟩) (hd : ¬ (48 ≤ byt nm 0 ∧ byt nm 0 ≤ 57)) (hj : joinsB nm = false) (hk : keyB nm = false)
    (hb : Aln b) (hl : GoodI l) (hp : ∀ p ∈ ps, Aln p ∧ p ≠ ⟨#[]⟩) : ∃ J, parseR s = ⟨nm, J, b, ps, 0, 0⟩ ∧ J.map nmOf = l.map imN := by
  obtain ⟨a, w, hnm, hla, hw⟩ := first_let ha h0 hd
  have h95 : nm ≠ ⟨#[95]⟩ := fun e => by
    have := ha 95 (by rw [e]; exact List.mem_singleton.2 rfl)
    exact absurd this (by decide)
  have hsk : skN s = 0 := by
    by_cases hb0 : b = ⟨#[]⟩
    · exact skN_first (c := 112) (by rw [hs]; unfold textM bldS; rw [if_pos hb0]; rfl) (by decide)
    · exact skN_first (c := 47) (by rw [hs]; unfold textM bldS; rw [if_neg hb0]; rfl) (by decide)
  have hL : ∀ {q : Nat} {l : List Tk} {N : List Tk}, lexT s 0 [] [] = lexT s q l N → lexL s = (lexT s q l N).1 ∧ lexM s = (lexT s q l N).2 := fun e => by
    unfold lexL lexM
    rw [hsk, e]; exact ⟨rfl, rfl⟩
  -- the constraint
  obtain ⟨q0, N0, s0, c0⟩ : ∃ q0 N0, Rcq s q0 (112 :: [97, 99, 107, 97, 103, 101] ++ 32 :: (a :: w ++ 10 :: (10 :: (impsS g l ++ (ps.flatMap embS ++ [118, 97, 114, 32, 120, 32, 105, 110, 116, 10]))))) [] N0 ∧
      ((N0 = [] ∧ b = ⟨#[]⟩) ∨ (N0 = [(0, ⟨(txtB b).toArray⟩, 0)] ∧ b ≠ ⟨#[]⟩ ∧ 0 < q0)) := by
    have st := Rcq.start s
    by_cases hb0 : b = ⟨#[]⟩
    · refine ⟨0, [], ?_, .inl ⟨rfl, hb0⟩⟩
      have e : s.data.toList = 112 :: [97, 99, 107, 97, 103, 101] ++ 32 :: (a :: w ++ 10 :: (10 :: (impsS g l ++ (ps.flatMap embS ++ [118, 97, 114, 32, 120, 32, 105, 110, 116, 10])))) := by
        rw [hs]; unfold textM bldS; rw [if_pos hb0, hnm]; simp
      rw [e] at st; exact st
    · have e : s.data.toList = 47 :: 47 :: ([103, 111, 58, 98, 117, 105, 108, 100, 32] ++ b.data.toList) ++ 10 :: (10 :: (112 :: [97, 99, 107, 97, 103, 101] ++ 32 :: (a :: w ++ 10 :: (10 :: (impsS g l ++ (ps.flatMap embS ++ [118, 97, 114, 32, 120, 32, 105, 110, 116, 10])))))) := by
        rw [hs]; unfold textM bldS; rw [if_neg hb0, hnm]; simp [txtB]
      rw [e] at st
      have h1 := (st.line (fun x hx => by
        rcases List.mem_append.1 hx with hx | hx
        · have : ∀ x ∈ ([103, 111, 58, 98, 117, 105, 108, 100, 32] : List UInt8), lowC x = true := by decide
          exact this x hx
        · exact lowC_word (alnC_word (hb x hx)))).lfn.lfn
      exact ⟨_, _, h1, .inr ⟨rfl, hb0, Nat.succ_pos _⟩⟩
  -- the clause
  have s1 := ((((s0.word (by decide) (fun x hx => word_package hx) (by decide) (by decide) (by decide)).bl (.inl rfl)).word hla hw (by decide) (by decide) (by decide)))
  rw [list_ba hnm] at s1
  have s1 : Rcq s _ (10 :: (impsS g l ++ (ps.flatMap embS ++ [118, 97, 114, 32, 120, 32, 105, 110, 116, 10]))) ([(1, wPackage), (1, nm)] ++ [wSemi]) N0 := s1.lf1 (ends1 hj)
  have s1 := s1.lf0 (by decide)
  obtain ⟨q1, s1⟩ := s1.ex
  obtain ⟨q2, K2, s2, k2⟩ := reach_imps hl s1
  have hb2 : 0 < q2 ∧ byt s (q2 - 1) = 10 := by
    rcases imps_end g l with h | ⟨P, h⟩
    · exact s2.rest.lf (P := bldS b ++ ([112, 97, 99, 107, 97, 103, 101, 32] ++ (nm.data.toList ++ [10]))) (by rw [hs]; unfold textM; rw [h]; simp)
    · exact s2.rest.lf (P := bldS b ++ ([112, 97, 99, 107, 97, 103, 101, 32] ++ (nm.data.toList ++ ([10, 10] ++ P)))) (by rw [hs]; unfold textM; rw [h]; simp)
  obtain ⟨q3, Y, h23, s3, hY⟩ := reach_emb ps q2 K2 N0 hp hb2.1 hb2.2 s2
  have q12 : q1 ≤ q2 := by
    have e1 := s1.rest.len
    have e2 := s2.rest.len
    rw [List.length_append] at e1
    omega
  -- behind it
  have s3' : Rcq s q3 (118 :: [97, 114] ++ 32 :: (120 :: [] ++ 32 :: (105 :: [110, 116] ++ 10 :: []))) (K2 ++ [wSemi]) (N0 ++ Y) := s3
  have s4 := ((((s3'.word (by decide) (by decide) (by decide) (by decide) (by decide)).bl (.inl rfl)).word (by decide) (by decide) (by decide) (by decide) (by decide)).bl (.inl rfl)).word (by decide) (by decide) (by decide) (by decide) (by decide)
  have s4 := s4.lf1 (by decide)
  obtain ⟨q4, s4⟩ := s4.ex
  obtain ⟨l4, e4, k4, r4, b4⟩ := s4
  have hq4 : ¬ q4 < s.size := by have := r4.len; simp at this; omega
  obtain ⟨l5, t5, rfl, f1, f2⟩ := last_of (X := K2 ++ [wSemi] ++ [(1, ⟨(118 :: [97, 114]).toArray⟩)] ++ [(1, ⟨(120 :: []).toArray⟩)] ++ [(1, ⟨(105 :: [110, 116]).toArray⟩)]) (a := wSemi) (by rw [k4]; simp)
  have e5 := lexT_out hq4 (l5 ++ [t5]) (N0 ++ Y)
  rw [feed_off (by rw [ends_kt f1 f2]; decide)] at e5
  obtain ⟨hLL, hMM⟩ := hL e4
  rw [e5] at hLL hMM
  have hkt : (lexL s).map kt = (1, wPackage) :: (1, nm) :: wSemi :: (impsK g l ++ (1, ⟨#[118, 97, 114]⟩) :: [(1, ⟨#[120]⟩), (1, ⟨#[105, 110, 116]⟩), wSemi, (0, ⟨#[]⟩)]) := by
    rw [hLL]
    show ((l5 ++ [t5]) ++ [(0, (⟨#[]⟩ : ByteArray), s.size)]).map kt = _
    rw [List.map_append, k4]
    have e : ∀ (x y z u v : Nat × ByteArray), K2 ++ [wSemi] ++ [x] ++ [y] ++ [z, u] ++ [v] = (K2 ++ [wSemi]) ++ [x, y, z, u, v] := fun x y z u v => by simp
    show K2 ++ [wSemi] ++ [(1, ⟨(118 :: [97, 114]).toArray⟩)] ++ [(1, ⟨(120 :: []).toArray⟩)] ++ [(1, ⟨(105 :: [110, 116]).toArray⟩), wSemi] ++ [(0, ⟨#[]⟩)] = _
    rw [e, k2]
    simp
  -- the beginning
  obtain ⟨_, a1, a2, h1⟩ := tk_drop (T := lexL s) (i := 0) hkt
  obtain ⟨_, b1, b2, h2⟩ := tk_drop h1
  obtain ⟨_, c1, c2, h3⟩ := tk_drop h2
  have b2 : (tk (lexL s) 1).2.1 = nm := b2
  obtain ⟨e, J, d1, d2, d3⟩ : ∃ e J, declR (lexL s) 3 [] = (true, e, [] ++ J) ∧ J.map nmOf = l.map imN ∧ ((lexL s).drop e).map kt = (1, ⟨#[118, 97, 114]⟩) :: [(1, ⟨#[120]⟩), (1, ⟨#[105, 110, 116]⟩), wSemi, (0, ⟨#[]⟩)] := by
    cases g with
    | false => exact declR_alone (by decide) l 3 [] hl h3
    | true =>
      refine declR_group (by decide) l 3 [] hl ?_
      rw [h3]
      simp [impsK]
  rw [List.nil_append] at d1
  have hbg := begin_is hkt h95 hk d1 d3 (by decide)
  refine ⟨J, ?_, d2⟩
  -- places
  have hlen : (lexL s).length = K2.length + 6 := by
    have := congrArg List.length hkt
    have e2 := congrArg List.length k2
    simp only [List.length_map, List.length_append, List.length_cons, List.length_nil] at this e2
    omega
  have hel : e = K2.length + 1 := by
    have := congrArg List.length d3
    simp only [List.length_map, List.length_drop, List.length_cons, List.length_nil] at this
    omega
  obtain ⟨l1, g1, g2, g3, g4⟩ := s1
  have hl1 : l1.length = 3 := by have := congrArg List.length g2; simpa using this
  obtain ⟨y1, hy1, _⟩ := lexT_toks s q1 l1 N0 g3.1
  have hL1 : lexL s = l1 ++ y1 := by rw [(hL g1).1, hy1]
  obtain ⟨l0, z1, z2, z3, z4⟩ := s0
  have hl0 : l0 = [] := by simpa using z2
  subst hl0
  obtain ⟨y0, hy0, hy0'⟩ := lexT_toks s q0 [] N0 z3.1
  have hL0 : lexL s = [] ++ y0 := by rw [(hL z1).1, hy0]
  obtain ⟨l3, u1, u2, u3, u4⟩ := s3
  have hl3 : l3.length = K2.length + 1 := by have := congrArg List.length u2; simpa using this
  obtain ⟨y3, hy3, hy3'⟩ := lexT_toks s q3 l3 (N0 ++ Y) u3.1
  have hL3 : lexL s = l3 ++ y3 := by rw [(hL u1).1, hy3]
  have hget : ∀ i, i < (lexL s).length → (lexL s)[i]? = some (tk (lexL s) i) := fun i hi => tk_some hi
  have lo : ∀ i, i < 3 → q0 ≤ (tk (lexL s) i).2.2 ∧ (tk (lexL s) i).2.2 < q1 := fun i hi => by
    have hg := hget i (by omega)
    refine ⟨hy0' _ ?_, g4 _ ?_⟩
    · rw [hL0, List.nil_append] at hg
      have := List.mem_of_getElem? hg
      rw [hL0, List.nil_append]; exact this
    · have hm := hg
      rw [hL1, List.getElem?_append_left (by omega)] at hm
      have := List.mem_of_getElem? hm
      rw [hL1]; exact this
  have hi : q3 ≤ (tk (lexL s) e).2.2 := by
    have hg := hget e (by omega)
    have hm := hg
    rw [hL3, List.getElem?_append_right (by omega)] at hm
    have := List.mem_of_getElem? hm
    rw [hL3]; exact hy3' _ this
  have hYm := hY.mem
  -- the comments
  have hN0 : ∀ t ∈ N0, b ≠ ⟨#[]⟩ ∧ 0 < q0 ∧ t = (0, ⟨(txtB b).toArray⟩, 0) := fun t ht => by
    rcases c0 with ⟨h, _⟩ | ⟨h, h2, h3⟩
    · rw [h] at ht; cases ht
    · rw [h] at ht; exact ⟨h2, h3, List.mem_singleton.1 ht⟩
  have keep : ∀ {α : Type} {p : α → Bool} (l : List α), (∀ x ∈ l, p x = true) → l.filter p = l := fun l h => List.filter_eq_self.2 h
  have none : ∀ {α : Type} {p : α → Bool} (l : List α), (∀ x ∈ l, p x = false) → l.filter p = [] := fun l h => List.filter_eq_nil_iff.2 fun x hx => by rw [h x hx]; exact Bool.noConfusion
  have nR : notesR s = N0 ++ Y := by
    unfold notesR
    rw [hMM]
    refine keep _ (fun t ht => ?_)
    rcases List.mem_append.1 ht with ht | ht
    · obtain ⟨_, _, rfl⟩ := hN0 t ht
      exact alone_zero rfl (pre_txtB b)
    · obtain ⟨_, _, m3, m4, m5, p, _, m6⟩ := hYm t ht
      exact alone_lf m3 m4 m5 (by rw [m6]; exact pre_txtE p)
  have fR : frontR s = N0 := by
    unfold frontR
    have k1 : N0.filter (inB (-1) ((tk (lexL s) 0).2.2 : Nat)) = N0 := keep _ (fun t ht => by
      obtain ⟨_, h0, rfl⟩ := hN0 t ht
      have := (lo 0 (by omega)).1
      unfold inB
      rw [decide_eq_true (show (-1 : Int) < ((0 : Nat) : Int) by decide), decide_eq_true (show ((0 : Nat) : Int) < ((tk (lexL s) 0).2.2 : Nat) by omega)]; rfl)
    have k2 : Y.filter (inB (-1) ((tk (lexL s) 0).2.2 : Nat)) = [] := none _ (fun t ht => by
      have h1 := (hYm t ht).1
      have := (lo 0 (by omega)).2
      unfold inB
      rw [decide_eq_false (show ¬ (t.2.2 : Int) < ((tk (lexL s) 0).2.2 : Nat) by omega), Bool.and_false])
    rw [nR, List.filter_append, k1, k2, List.append_nil]
  have bR : backR s = Y := by
    unfold backR
    rw [hbg]
    show (notesR s).filter (inB ((tk (lexL s) 2).2.2 : Nat) ((tk (lexL s) e).2.2 : Nat)) = Y
    have k1 : N0.filter (inB ((tk (lexL s) 2).2.2 : Nat) ((tk (lexL s) e).2.2 : Nat)) = [] := none _ (fun t ht => by
      obtain ⟨_, h0, rfl⟩ := hN0 t ht
      unfold inB
      rw [decide_eq_false (show ¬ (((tk (lexL s) 2).2.2 : Nat) : Int) < ((0 : Nat) : Int) by omega), Bool.false_and])
    have k2 : Y.filter (inB ((tk (lexL s) 2).2.2 : Nat) ((tk (lexL s) e).2.2 : Nat)) = Y := keep _ (fun t ht => by
      obtain ⟨m1, m2, _⟩ := hYm t ht
      have := (lo 2 (by omega)).2
      unfold inB
      rw [decide_eq_true (show (((tk (lexL s) 2).2.2 : Nat) : Int) < (t.2.2 : Int) by omega), decide_eq_true (show (t.2.2 : Int) < ((tk (lexL s) e).2.2 : Nat) by omega)]; rfl)
    rw [nR, List.filter_append, k1, k2, List.nil_append]
  have hcon : conR s (frontR s) (tk (lexL s) 0).2.2 = (b, -1) := by
    rw [fR]
    rcases c0 with ⟨h, h2⟩ | ⟨h, h2, h3⟩
    · rw [h, con_dull (fun t ht => by cases ht), h2]
    · have hg : conGo N0 ⟨#[]⟩ = (Option.none, b) := by
        rw [h, conGo, build_word hb h2, if_neg (by simp), if_neg (fun k => k rfl), if_neg h2]; rfl
      unfold conR
      rw [hg]
      show (if b = ⟨#[]⟩ then _ else (b, (-1 : Int))) = _
      rw [if_neg h2]
  have hemb : embGo (backR s) [] = (Option.none, ps) := by
    rw [bR, embGo_is [] hY hp, List.nil_append]
  unfold parseR
  rw [hcon, hemb, hbg, if_neg (fun k => k rfl), if_neg (show ¬ (0 : Int) ≤ -1 by decide), b2]
end Go.Proofs.YtejogobhnbjpdaaDoor
