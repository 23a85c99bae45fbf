/- Theory: the header of a text whose tokens are those of a made file. -/
import Derived.Test.YtejogobhnbjpdaaDoorXp
namespace Go.Proofs.YtejogobhnbjpdaaDoor
set_option linter.unusedVariables false
set_option linter.unusedSimpArgs false
open Go.ChangeShapes Go.WideShapes Go.ChangeAt Go.RowKit

/-- A token without its place. -/
def kt (t : Tk) : Nat × ByteArray := (t.1, t.2.1)
/-- A letter or a digit. -/
def alnC (c : UInt8) : Bool := (decide (97 ≤ c.toNat) && decide (c.toNat ≤ 122)) || (decide (65 ≤ c.toNat) && decide (c.toNat ≤ 90)) || (decide (48 ≤ c.toNat) && decide (c.toNat ≤ 57))
theorem alnC_word {c : UInt8} (h : alnC c = true) : wordC c = true := by unfold wordC; unfold alnC at h; rw [h]; rfl
theorem alnC_le {c : UInt8} (h : alnC c = true) : 48 ≤ c.toNat ∧ c.toNat ≤ 122 ∧ c.toNat ≠ 95 ∧ c.toNat ≠ 96 ∧ c.toNat ≠ 92 := by simp [alnC] at h; omega
def Aln (x : ByteArray) : Prop := ∀ c ∈ x.data.toList, alnC c = true
/-- A name ahead of an import, and how it is written: none, _, a point, n. -/
def nmT (c : Nat) : List UInt8 := if c = 1 then [95] else if c = 2 then [46] else if c = 3 then [110] else []
def nmS (c : Nat) : List UInt8 := if c = 1 then [95, 32] else if c = 2 then [46, 32] else if c = 3 then [110, 32] else []
def nmK (c : Nat) : List (Nat × ByteArray) := if c = 1 then [(1, ⟨#[95]⟩)] else if c = 2 then [(5, ⟨#[46]⟩)] else if c = 3 then [(1, ⟨#[110]⟩)] else []
def quoB (p : ByteArray) : ByteArray := ⟨(34 :: (p.data.toList ++ [34])).toArray⟩
theorem mid_quo (p : ByteArray) : mid (quoB p) = p := by
  apply ba_ext
  unfold mid
  have h : (quoB p).data.toList = 34 :: (p.data.toList ++ [34]) := rfl
  have hs : (quoB p).size = p.data.toList.length + 2 := by rw [Lib.size_eq, h]; simp
  rw [Lib.extract_data, hs, h, List.drop_succ_cons, List.drop_zero]
  show (p.data.toList ++ [34]).take (p.data.toList.length + 2 - 1 - 1) = _
  rw [show p.data.toList.length + 2 - 1 - 1 = p.data.toList.length by omega, List.take_left]
theorem any_no {cs : List UInt8} : ∀ l : List UInt8, (∀ c ∈ l, cs.contains c = false) → Lib.indexAny l cs = -1
  | [], _ => rfl
  | c :: l, h => by
    rw [Lib.indexAny, if_neg (by rw [h c List.mem_cons_self]; exact Bool.noConfusion), any_no l (fun x hx => h x (List.mem_cons_of_mem _ hx)), if_pos (by decide)]
theorem aln_not {c : UInt8} {cs : List UInt8} (h : alnC c = true) (hcs : ∀ x ∈ cs, alnC x = false) : cs.contains c = false := by
  apply Bool.eq_false_iff.2
  intro e
  have := hcs c (List.elem_iff.1 e)
  rw [h] at this; cases this
theorem path_aln {p : ByteArray} (h : Aln p) (h0 : p ≠ ⟨#[]⟩) : pathOk p = true := by
  unfold pathOk anyB Lib.containsAny
  rw [any_no _ (fun c hc => aln_not (h c hc) (by decide)), decide_eq_true h0]
  rfl
theorem tk_drop {T : List Tk} {i : Nat} {a : Nat × ByteArray} {R : List (Nat × ByteArray)} (h : (T.drop i).map kt = a :: R) : i < T.length ∧ (tk T i).1 = a.1 ∧ (tk T i).2.1 = a.2 ∧ (T.drop (i + 1)).map kt = R := by
  cases hd : T.drop i with
  | nil => rw [hd] at h; cases h
  | cons x l =>
    rw [hd] at h
    injection h with h1 h2
    have hi : i < T.length := by
      have := congrArg List.length hd
      rw [List.length_drop, List.length_cons] at this; omega
    have h3 : T[i]? = some x := by
      have : (T.drop i)[0]? = some x := by rw [hd]; rfl
      rw [List.getElem?_drop, Nat.add_zero] at this; exact this
    have h4 : tk T i = x := by unfold tk; rw [List.getD_eq_getElem?_getD, h3]; rfl
    have h5 : T.drop (i + 1) = l := by rw [← List.drop_drop, hd]; rfl
    rw [h4, h5]
    unfold kt at h1
    subst h1
    exact ⟨hi, rfl, rfl, h2⟩
theorem key_95 : keyB ⟨#[95]⟩ = false := by decide +kernel
theorem key_n : keyB ⟨#[110]⟩ = false := by decide +kernel
/-- An import that is written. -/
theorem specR_is {T : List Tk} {i c : Nat} {p : ByteArray} {R : List (Nat × ByteArray)} (h : (T.drop i).map kt = nmK c ++ (4, quoB p) :: R) (hp : Aln p) (h0 : p ≠ ⟨#[]⟩) :
    ∃ k, specR T i = (some (⟨(nmT c).toArray⟩, p, (tk T i).2.2), k) ∧ (T.drop k).map kt = R := by
  have hpo := path_aln hp h0
  by_cases hc : nmK c = []
  · have hT : nmT c = [] := by
      unfold nmK at hc; unfold nmT
      split at hc
      · cases hc
      · split at hc
        · cases hc
        · split at hc
          · cases hc
          · rename_i a b d; rw [if_neg a, if_neg b, if_neg d]
    rw [hc] at h
    obtain ⟨hi, h1, h2, h3⟩ := tk_drop (R := R) (a := (4, quoB p)) h
    have hn : named (tk T i) = false := by
      have h1 : (tk T i).1 = 4 := h1
      unfold named tIs tName
      rw [h1]; simp
    refine ⟨i + 1, ?_, h3⟩
    unfold specR
    have h2 : (tk T i).2.1 = quoB p := h2
    rw [hn]
    show (if (tk T (nx false i)).1 = 4 ∧ pathOk (mid (tk T (nx false i)).2.1) = true then _ else _) = _
    have hx : nx false i = i := rfl
    rw [hx, h2, mid_quo, if_pos ⟨h1, hpo⟩, hT]
    rfl
  · obtain ⟨a, ha, hat, hnm⟩ : ∃ a, nmK c = [a] ∧ (⟨(nmT c).toArray⟩ : ByteArray) = a.2 ∧ (∀ t : Tk, t.1 = a.1 → t.2.1 = a.2 → named t = true) := by
      unfold nmK at hc ⊢; unfold nmT
      by_cases c1 : c = 1
      · rw [if_pos c1, if_pos c1]
        exact ⟨_, rfl, rfl, fun t e1 e2 => by
          have e1 : t.1 = 1 := e1
          have e2 : t.2.1 = ⟨#[95]⟩ := e2
          unfold named tName; rw [e1, e2, key_95]; simp⟩
      · rw [if_neg c1, if_neg c1]
        by_cases c2 : c = 2
        · rw [if_pos c2, if_pos c2]
          exact ⟨_, rfl, rfl, fun t e1 e2 => by
            have e1 : t.1 = 5 := e1
            have e2 : t.2.1 = ⟨#[46]⟩ := e2
            unfold named tIs; rw [e1, e2]; simp⟩
        · rw [if_neg c2, if_neg c2]
          by_cases c3 : c = 3
          · rw [if_pos c3, if_pos c3]
            exact ⟨_, rfl, rfl, fun t e1 e2 => by
              have e1 : t.1 = 1 := e1
              have e2 : t.2.1 = ⟨#[110]⟩ := e2
              unfold named tName; rw [e1, e2, key_n]; simp⟩
          · rw [if_neg c1, if_neg c2, if_neg c3] at hc; exact absurd rfl hc
    rw [ha] at h
    obtain ⟨hi, h1, h2, h3⟩ := tk_drop (R := (4, quoB p) :: R) (a := a) h
    obtain ⟨hi2, g1, g2, g3⟩ := tk_drop h3
    have hn := hnm _ h1 h2
    have g1 : (tk T (i + 1)).1 = 4 := g1
    have g2 : (tk T (i + 1)).2.1 = quoB p := g2
    refine ⟨i + 1 + 1, ?_, g3⟩
    unfold specR
    rw [hn]
    have hx : nx true i = i + 1 := rfl
    rw [hx, g2, mid_quo, if_pos ⟨g1, hpo⟩, if_pos rfl, hat, h2]
/-- A list of imports: name (0 to 3) and path. -/
abbrev Il := List (Nat × ByteArray)
def GoodI (l : Il) : Prop := ∀ x ∈ l, Aln x.2 ∧ x.2 ≠ ⟨#[]⟩
theorem GoodI.tail {x : Nat × ByteArray} {l : Il} (h : GoodI (x :: l)) : GoodI l := fun y hy => h y (List.mem_cons_of_mem _ hy)
def imN (x : Nat × ByteArray) : ByteArray × ByteArray := (⟨(nmT x.1).toArray⟩, x.2)
def nmOf (x : Im) : ByteArray × ByteArray := (x.1, x.2.1)
def wSemi : Nat × ByteArray := (6, ⟨#[]⟩)
def aloneK (l : Il) : List (Nat × ByteArray) := l.flatMap fun x => (1, wImport) :: (nmK x.1 ++ [(4, quoB x.2), wSemi])
def groupK (l : Il) : List (Nat × ByteArray) := l.flatMap fun x => nmK x.1 ++ [(4, quoB x.2), wSemi]
theorem declR_alone {T : List Tk} {k : Nat} {b : ByteArray} {R : List (Nat × ByteArray)} (hb : (k, b) ≠ (1, wImport)) : ∀ (l : Il) (i : Nat) (I : List Im), GoodI l → (T.drop i).map kt = aloneK l ++ (k, b) :: R →
    ∃ e J, declR T i I = (true, e, I ++ J) ∧ J.map nmOf = l.map imN ∧ (T.drop e).map kt = (k, b) :: R
  | [], i, I, hg, h => by
    have h : (T.drop i).map kt = (k, b) :: R := h
    obtain ⟨hi, h1, h2, h3⟩ := tk_drop h
    refine ⟨i, [], ?_, rfl, h⟩
    rw [declR_end I hi ?_, List.append_nil]
    unfold tIs
    have h1 : (tk T i).1 = k := h1
    have h2 : (tk T i).2.1 = b := h2
    rw [h1, h2]
    by_cases e1 : k = 1
    · by_cases e2 : b = wImport
      · exact absurd (by rw [e1, e2]) hb
      · rw [decide_eq_false e2, Bool.and_false]
    · rw [decide_eq_false e1, Bool.false_and]
  | x :: l, i, I, hg, h => by
    have h : (T.drop i).map kt = (1, wImport) :: (nmK x.1 ++ (4, quoB x.2) :: (wSemi :: (aloneK l ++ (k, b) :: R))) := by
      rw [h]; unfold aloneK; simp
    obtain ⟨hi, h1, h2, h3⟩ := tk_drop h
    obtain ⟨hx1, hx2⟩ := hg x List.mem_cons_self
    obtain ⟨e, he, h4⟩ := specR_is h3 hx1 hx2
    obtain ⟨hi5, g1, g2, g3⟩ := tk_drop h4
    have hge := specR_ge T (i + 1)
    rw [he] at hge
    have hge : i + 1 ≤ e := hge
    have hnb : tIs 5 ⟨#[40]⟩ (tk T (i + 1)) = false := by
      by_cases hc : nmK x.1 = []
      · rw [hc] at h3
        obtain ⟨_, a1, _, _⟩ := tk_drop (a := (4, quoB x.2)) h3
        have a1 : (tk T (i + 1)).1 = 4 := a1
        unfold tIs; rw [a1]; simp
      · obtain ⟨a, ha, hn40⟩ : ∃ a, nmK x.1 = [a] ∧ a.2 ≠ ⟨#[40]⟩ := by
          unfold nmK at hc ⊢
          split
          · exact ⟨_, rfl, by decide⟩
          · split
            · exact ⟨_, rfl, by decide⟩
            · split
              · exact ⟨_, rfl, by decide⟩
              · rename_i a b d; rw [if_neg a, if_neg b, if_neg d] at hc; exact absurd rfl hc
        rw [ha] at h3
        obtain ⟨_, _, a2, _⟩ := tk_drop (R := (4, quoB x.2) :: (wSemi :: (aloneK l ++ (k, b) :: R))) (a := a) h3
        unfold tIs; rw [a2, decide_eq_false hn40, Bool.and_false]
    have hs1 : specs1 T (i + 1) I = (true, e, I ++ [(⟨(nmT x.1).toArray⟩, x.2, (tk T (i + 1)).2.2)]) := by
      unfold specs1
      rw [if_neg (by rw [hnb]; exact Bool.noConfusion), he]
      rfl
    have hc1 : tIs 1 wImport (tk T i) = true := by
      have h1 : (tk T i).1 = 1 := h1
      have h2 : (tk T i).2.1 = wImport := h2
      unfold tIs; rw [h1, h2]; simp
    have hsm : tSemi (tk T e) = true := by
      have g1 : (tk T e).1 = 6 := g1
      unfold tSemi; rw [g1]; rfl
    obtain ⟨e2, J, a1, a2, a3⟩ := declR_alone hb l (e + 1) (I ++ [(⟨(nmT x.1).toArray⟩, x.2, (tk T (i + 1)).2.2)]) hg.tail g3
    refine ⟨e2, (⟨(nmT x.1).toArray⟩, x.2, (tk T (i + 1)).2.2) :: J, ?_, ?_, a3⟩
    · rw [declR_on I hi hc1 (by rw [hs1]; show i < e; omega) (by rw [hs1]), hs1]
      show (if tSemi (tk T e) = true then declR T (e + 1) (I ++ _) else _) = _
      rw [if_pos hsm, a1, List.append_assoc]; rfl
    · show _ :: J.map nmOf = _ :: l.map imN
      rw [a2]; rfl
theorem specsR_group {T : List Tk} {R : List (Nat × ByteArray)} : ∀ (l : Il) (i : Nat) (I : List Im), GoodI l → (T.drop i).map kt = groupK l ++ (5, ⟨#[41]⟩) :: R →
    ∃ e J, specsR T i I = (true, e, I ++ J) ∧ J.map nmOf = l.map imN ∧ (T.drop e).map kt = R
  | [], i, I, hg, h => by
    have h : (T.drop i).map kt = (5, ⟨#[41]⟩) :: R := h
    obtain ⟨hi, h1, h2, h3⟩ := tk_drop h
    refine ⟨i + 1, [], ?_, rfl, h3⟩
    have h1 : (tk T i).1 = 5 := h1
    have h2 : (tk T i).2.1 = ⟨#[41]⟩ := h2
    rw [specsR_close I hi (by unfold tIs; rw [h1, h2]; simp), List.append_nil]
  | x :: l, i, I, hg, h => by
    have h : (T.drop i).map kt = nmK x.1 ++ (4, quoB x.2) :: (wSemi :: (groupK l ++ (5, ⟨#[41]⟩) :: R)) := by
      rw [h]; unfold groupK; simp
    obtain ⟨hx1, hx2⟩ := hg x List.mem_cons_self
    obtain ⟨e, he, h4⟩ := specR_is h hx1 hx2
    obtain ⟨hi5, g1, g2, g3⟩ := tk_drop h4
    have hge := specR_ge T i
    rw [he] at hge
    have hge : i ≤ e := hge
    have hnc : tIs 5 ⟨#[41]⟩ (tk T i) = false := by
      by_cases hc : nmK x.1 = []
      · rw [hc] at h
        obtain ⟨_, a1, _, _⟩ := tk_drop (a := (4, quoB x.2)) h
        have a1 : (tk T i).1 = 4 := a1
        unfold tIs; rw [a1]; simp
      · obtain ⟨a, ha, hn41⟩ : ∃ a, nmK x.1 = [a] ∧ a.2 ≠ ⟨#[41]⟩ := by
          unfold nmK at hc ⊢
          split
          · exact ⟨_, rfl, by decide⟩
          · split
            · exact ⟨_, rfl, by decide⟩
            · split
              · exact ⟨_, rfl, by decide⟩
              · rename_i a b d; rw [if_neg a, if_neg b, if_neg d] at hc; exact absurd rfl hc
        rw [ha] at h
        obtain ⟨_, _, a2, _⟩ := tk_drop (R := (4, quoB x.2) :: (wSemi :: (groupK l ++ (5, ⟨#[41]⟩) :: R))) (a := a) h
        unfold tIs; rw [a2, decide_eq_false hn41, Bool.and_false]
    have hsm : tSemi (tk T e) = true := by
      have g1 : (tk T e).1 = 6 := g1
      unfold tSemi; rw [g1]; rfl
    obtain ⟨e2, J, a1, a2, a3⟩ := specsR_group l (e + 1) (I ++ [(⟨(nmT x.1).toArray⟩, x.2, (tk T i).2.2)]) hg.tail g3
    refine ⟨e2, (⟨(nmT x.1).toArray⟩, x.2, (tk T i).2.2) :: J, ?_, ?_, a3⟩
    · rw [specsR_some I (by omega) hnc (by rw [he]), he]
      show (if tSemi (tk T e) = true then specsR T (e + 1) (I ++ _) else _) = _
      rw [if_pos hsm, a1, List.append_assoc]; rfl
    · show _ :: J.map nmOf = _ :: l.map imN
      rw [a2]; rfl
theorem specsR_ge2 (T : List Tk) (i : Nat) (I : List Im) : i ≤ (specsR T i I).2.1 := by
  have key : ∀ (n i : Nat) (I : List Im), T.length - i ≤ n → i ≤ (specsR T i I).2.1 := by
    intro n
    induction n with
    | zero =>
      intro i I hn
      rw [specsR, dif_neg (by omega)]
      exact Nat.le_refl _
    | succ n ih =>
      intro i I hn
      by_cases hi : i < T.length
      · cases hc : tIs 5 ⟨#[41]⟩ (tk T i) with
        | true => rw [specsR_close I hi hc]; exact Nat.le_succ _
        | false =>
          have hg := specR_ge T i
          cases hs : (specR T i).1 with
          | none => rw [specsR_none I hi hc hs]; exact hg
          | some m =>
            have hp := specR_pos hs
            rw [specsR_some I hi hc hs]
            split
            · have := ih ((specR T i).2 + 1) (I ++ [m]) (by omega); omega
            · split
              · have := ih (specR T i).2 (I ++ [m]) (by omega); omega
              · exact hg
      · rw [specsR, dif_neg hi]; exact Nat.le_refl _
  exact key _ i I (Nat.le_refl _)
/-- The imports in brackets: import, a bracket, specs, a bracket, a semicolon. -/
theorem declR_group {T : List Tk} {k : Nat} {b : ByteArray} {R : List (Nat × ByteArray)} (hb : (k, b) ≠ (1, wImport)) (l : Il) (i : Nat) (I : List Im) (hg : GoodI l)
    (h : (T.drop i).map kt = (1, wImport) :: (5, ⟨#[40]⟩) :: (groupK l ++ (5, ⟨#[41]⟩) :: wSemi :: (k, b) :: R)) :
    ∃ e J, declR T i I = (true, e, I ++ J) ∧ J.map nmOf = l.map imN ∧ (T.drop e).map kt = (k, b) :: R := by
  obtain ⟨hi, h1, h2, h3⟩ := tk_drop h
  obtain ⟨hi2, g1, g2, g3⟩ := tk_drop h3
  obtain ⟨e, J, a1, a2, a3⟩ := specsR_group l (i + 1 + 1) I hg g3
  obtain ⟨hi4, f1, f2, f3⟩ := tk_drop a3
  obtain ⟨e2, J2, b1, b2, b3⟩ := declR_alone (R := R) hb [] (e + 1) (I ++ J) (fun x hx => by cases hx) f3
  have h1 : (tk T i).1 = 1 := h1
  have h2 : (tk T i).2.1 = wImport := h2
  have g1 : (tk T (i + 1)).1 = 5 := g1
  have g2 : (tk T (i + 1)).2.1 = ⟨#[40]⟩ := g2
  have f1 : (tk T e).1 = 6 := f1
  have hs1 : specs1 T (i + 1) I = (true, e, I ++ J) := by
    unfold specs1
    rw [if_pos (by unfold tIs; rw [g1, g2]; simp), a1]
  have hge := specsR_ge2 T (i + 1 + 1) I
  rw [a1] at hge
  have hge : i + 1 + 1 ≤ e := hge
  have hJ2 : J2 = [] := by
    have := congrArg List.length b2
    simpa using this
  refine ⟨e2, J, ?_, a2, b3⟩
  rw [declR_on I hi (by unfold tIs; rw [h1, h2]; simp) (by rw [hs1]; show i < e; omega) (by rw [hs1]), hs1]
  show (if tSemi (tk T e) = true then declR T (e + 1) (I ++ J) else _) = _
  rw [if_pos (by unfold tSemi; rw [f1]; rfl), b1, hJ2, List.append_nil]
/-- The clause, and the imports: a beginning without a fault. -/
theorem begin_is {T : List Tk} {nm : ByteArray} {k e : Nat} {b : ByteArray} {X R : List (Nat × ByteArray)} {J : List Im} (hT : T.map kt = (1, wPackage) :: (1, nm) :: wSemi :: X) (h95 : nm ≠ ⟨#[95]⟩) (hk : keyB nm = false)
    (hd : declR T 3 [] = (true, e, J)) (he : (T.drop e).map kt = (k, b) :: R) (hk7 : k ≠ 7) : beginR T = (0, e, J) := by
  obtain ⟨_, a1, a2, h1⟩ := tk_drop (T := T) (i := 0) hT
  obtain ⟨_, b1, b2, h2⟩ := tk_drop h1
  obtain ⟨_, c1, c2, h3⟩ := tk_drop h2
  obtain ⟨_, d1, d2, _⟩ := tk_drop he
  have a1 : (tk T 0).1 = 1 := a1
  have a2 : (tk T 0).2.1 = wPackage := a2
  have b1 : (tk T 1).1 = 1 := b1
  have b2 : (tk T 1).2.1 = nm := b2
  have c1 : (tk T 2).1 = 6 := c1
  have d1 : (tk T e).1 = k := d1
  have hc : clauseR T = (true, 3) := by
    unfold clauseR
    rw [if_neg (by unfold tIs; rw [a1, a2]; simp), if_neg (by rw [b2]; exact h95), if_neg (by unfold tName; rw [b1, b2, hk]; simp), if_neg (by unfold tSemi; rw [c1]; simp)]
  unfold beginR
  rw [hc, hd, if_neg (by simp), if_neg (by simp), d1, if_neg hk7]
end Go.Proofs.YtejogobhnbjpdaaDoor
