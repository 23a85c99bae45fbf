/- Patterns of paths, as lists of bytes. -/
import Derived.Lib.Strings
namespace Go.Proofs.Ytaaggfccbbimbaa

abbrev Sp := UInt8 × UInt8
structure Pc where
  many : Bool
  neg : Bool
  spans : List Sp
def inSp (b : UInt8) (x : Sp) : Bool := decide (x.1 ≤ b) && decide (b ≤ x.2)
def hasP (p : Pc) (b : UInt8) : Bool :=
  if b = 47 then !p.neg && decide (p.spans = [(47, 47)]) else if p.spans.any (inSp b) then !p.neg else p.neg

/-! What a pattern is read as. -/
def isC (c : UInt8) : List UInt8 → Bool × List UInt8
  | [] => (false, [])
  | x :: r => if x = c then (true, r) else (false, x :: r)
def signP (l : List UInt8) : Option UInt8 × List UInt8 :=
  match (isC 92 l).2 with
  | [] => (none, [])
  | x :: r => (some x, r)
def endP (l : List UInt8) : Option UInt8 × List UInt8 :=
  match l with
  | x :: r => if x = 93 ∨ x = 45 then (none, x :: r) else signP (x :: r)
  | [] => signP []
def spanP (l : List UInt8) : Option Sp × List UInt8 :=
  match endP l with
  | (none, r) => (none, r)
  | (some a, r) =>
    match isC 45 r with
    | (false, r2) => (some (a, a), r2)
    | (true, r2) =>
      match endP r2 with
      | (none, r3) => (none, r3)
      | (some b, r3) => if a ≤ b then (some (a, b), r3) else (none, r3)
def classP : Nat → List Sp → List UInt8 → Option (List Sp) × List UInt8
  | 0, _, l => (none, l)
  | n + 1, acc, l =>
    match spanP l with
    | (none, r) => (none, r)
    | (some x, r) =>
      match isC 93 r with
      | (true, r2) => (some (acc ++ [x]), r2)
      | (false, r2) => classP n (acc ++ [x]) r2
def pieceP (l : List UInt8) : Option Pc × List UInt8 :=
  match isC 42 l with
  | (true, r) => (some ⟨true, true, []⟩, r)
  | (false, r) =>
    match isC 63 r with
    | (true, r) => (some ⟨false, true, []⟩, r)
    | (false, r) =>
      match isC 91 r with
      | (true, r) =>
        match isC 94 r with
        | (neg, r) =>
          match classP (r.length + 1) [] r with
          | (some s, r) => (some ⟨false, neg, s⟩, r)
          | (none, r) => (none, r)
      | (false, r) =>
        match signP r with
        | (some b, r) => (some ⟨false, false, [(b, b)]⟩, r)
        | (none, r) => (none, r)
def parseG : Nat → List UInt8 → Option (List Pc)
  | _, [] => some []
  | 0, _ :: _ => none
  | n + 1, x :: l =>
    match pieceP (x :: l) with
    | (none, _) => none
    | (some p, r) => (parseG n r).map (p :: ·)

theorem isC_cons (c x : UInt8) (r : List UInt8) : isC c (x :: r) = if x = c then (true, r) else (false, x :: r) := rfl
theorem isC_len (c : UInt8) (l : List UInt8) : (isC c l).2.length ≤ l.length := by
  cases l with
  | nil => simp [isC]
  | cons x r => rw [isC_cons]; split <;> simp
theorem isC_true {c : UInt8} {l r : List UInt8} (h : isC c l = (true, r)) : l = c :: r := by
  cases l with
  | nil => simp [isC] at h
  | cons x t =>
    rw [isC_cons] at h
    split at h
    · rename_i e; simp at h; rw [e, h]
    · simp at h
theorem isC_false {c : UInt8} {l r : List UInt8} (h : isC c l = (false, r)) : r = l ∧ (∀ t, l ≠ c :: t) := by
  cases l with
  | nil => simp [isC] at h; exact ⟨h, by simp⟩
  | cons x t =>
    rw [isC_cons] at h
    split at h
    · simp at h
    · rename_i e; simp at h; exact ⟨h.symm, fun t e2 => e (by injection e2)⟩
theorem signP_len (l : List UInt8) : (signP l).2.length ≤ l.length := by
  have h := isC_len 92 l
  unfold signP
  split <;> rename_i e <;> rw [e] at h <;> simp at h ⊢; omega
theorem signP_some {l r : List UInt8} {b : UInt8} (h : signP l = (some b, r)) : r.length < l.length := by
  have h2 := isC_len 92 l
  unfold signP at h
  split at h <;> rename_i e <;> rw [e] at h2 <;> simp at h h2
  rw [← h.2]; omega
theorem endP_len (l : List UInt8) : (endP l).2.length ≤ l.length := by
  unfold endP
  split
  · split
    · simp
    · exact signP_len _
  · exact signP_len _
theorem endP_some {l r : List UInt8} {b : UInt8} (h : endP l = (some b, r)) : r.length < l.length := by
  unfold endP at h
  split at h
  · split at h
    · simp at h
    · exact signP_some h
  · exact signP_some h
theorem spanP_len (l : List UInt8) : (spanP l).2.length ≤ l.length := by
  have h1 := endP_len l
  unfold spanP
  split
  · rename_i e; rw [e] at h1; exact h1
  · rename_i a r e
    rw [e] at h1
    have h2 := isC_len 45 r
    split
    · rename_i e2; rw [e2] at h2; simp at h1 h2 ⊢; omega
    · rename_i r2 e2
      rw [e2] at h2
      have h3 := endP_len r2
      split
      · rename_i e3; rw [e3] at h3; simp at h1 h2 h3 ⊢; omega
      · rename_i e3; rw [e3] at h3; simp at h1 h2 h3; split <;> (simp; omega)
theorem spanP_some {l r : List UInt8} {x : Sp} (h : spanP l = (some x, r)) : r.length < l.length := by
  unfold spanP at h
  split at h
  · simp at h
  · rename_i a r1 e
    have h1 := endP_some e
    have h2 := isC_len 45 r1
    split at h
    · rename_i e2; rw [e2] at h2; simp at h h2; rw [← h.2]; omega
    · rename_i r2 e2
      rw [e2] at h2
      split at h
      · simp at h
      · rename_i b r3 e3
        have h3 := endP_some e3
        split at h <;> simp at h h2
        rw [← h.2]; omega
theorem classP_len : ∀ (n : Nat) (acc : List Sp) (l : List UInt8), (classP n acc l).2.length ≤ l.length := by
  intro n
  induction n with
  | zero => intro acc l; simp [classP]
  | succ n ih =>
    intro acc l
    have h1 := spanP_len l
    unfold classP
    split
    · rename_i e; rw [e] at h1; exact h1
    · rename_i x r e
      rw [e] at h1
      have h2 := isC_len 93 r
      split
      · rename_i e2; rw [e2] at h2; simp at h1 h2 ⊢; omega
      · rename_i r2 e2
        rw [e2] at h2
        have := ih (acc ++ [x]) r2
        simp at h1 h2; omega
theorem pieceP_len (l : List UInt8) : (pieceP l).2.length ≤ l.length := by
  unfold pieceP
  have h1 := isC_len 42 l
  split
  · rename_i r e; rw [e] at h1; exact h1
  · rename_i r e
    rw [e] at h1
    have h2 := isC_len 63 r
    split
    · rename_i e2; rw [e2] at h2; simp at h1 h2 ⊢; omega
    · rename_i r2 e2
      rw [e2] at h2
      have h3 := isC_len 91 r2
      split
      · rename_i r3 e3
        rw [e3] at h3
        have h4 := isC_len 94 r3
        split
        rename_i neg r4 e4
        rw [e4] at h4
        have h5 := classP_len (r4.length + 1) [] r4
        split <;> rename_i e5 <;> rw [e5] at h5 <;> simp at h1 h2 h3 h4 h5 ⊢ <;> omega
      · rename_i r3 e3
        rw [e3] at h3
        have h4 := signP_len r3
        split <;> rename_i e5 <;> rw [e5] at h4 <;> simp at h1 h2 h3 h4 ⊢ <;> omega
theorem pieceP_some {l r : List UInt8} {p : Pc} (h : pieceP l = (some p, r)) : r.length < l.length := by
  unfold pieceP at h
  have h1 := isC_len 42 l
  split at h
  · rename_i r1 e; simp at h; rw [← h.2, isC_true e]; simp
  · rename_i r1 e
    rw [(isC_false e).1] at h
    split at h
    · rename_i r1 e; simp at h; rw [← h.2, isC_true e]; simp
    · rename_i r2 e2
      rw [(isC_false e2).1] at h
      split at h
      · rename_i r3 e3
        rw [isC_true e3]
        have h4 := isC_len 94 r3
        split at h
        rename_i neg r4 e4
        rw [e4] at h4
        have h5 := classP_len (r4.length + 1) [] r4
        split at h <;> rename_i e5 <;> rw [e5] at h5 <;> simp at h h4 h5 ⊢
        rw [← h.2]; omega
      · rename_i r3 e3
        rw [(isC_false e3).1] at h
        split at h <;> rename_i e5 <;> simp at h
        rw [← h.2]; exact signP_some e5

/-! What matches. -/
def One (p : Pc) (u : List UInt8) : Prop := if p.many then ∀ b ∈ u, hasP p b = true else ∃ c, u = [c] ∧ hasP p c = true
def Mat : List Pc → List UInt8 → Prop
  | [], l => l = []
  | p :: ps, l => ∃ u v, l = u ++ v ∧ One p u ∧ Mat ps v
theorem mat_app (ps qs : List Pc) : ∀ l, Mat (ps ++ qs) l ↔ ∃ u v, l = u ++ v ∧ Mat ps u ∧ Mat qs v := by
  induction ps with
  | nil => intro l; exact ⟨fun h => ⟨[], l, rfl, rfl, h⟩, fun ⟨u, v, h1, h2, h3⟩ => by rw [show u = [] from h2] at h1; rw [List.nil_append, h1]; exact h3⟩
  | cons p ps ih =>
    intro l
    simp only [List.cons_append, Mat]
    constructor
    · rintro ⟨u, v, rfl, h1, h2⟩
      obtain ⟨x, y, rfl, h3, h4⟩ := (ih v).1 h2
      exact ⟨u ++ x, y, by simp, ⟨u, x, rfl, h1, h3⟩, h4⟩
    · rintro ⟨u, v, rfl, ⟨x, y, rfl, h1, h2⟩, h3⟩
      exact ⟨x, y ++ v, by simp, h1, (ih _).2 ⟨y, v, rfl, h2, h3⟩⟩
theorem mat_one (p : Pc) (l : List UInt8) : Mat [p] l ↔ One p l := by
  simp [Mat]
/-- The ends behind the first pieces: the i-th says whether these have the first i bytes. -/
def Ends (ps : List Pc) (name : List UInt8) (E : List Bool) : Prop := E.length = name.length + 1 ∧ ∀ i, i ≤ name.length → (E.getD i false = true ↔ Mat ps (name.take i))
theorem ends_start (name : List UInt8) : Ends [] name (true :: List.replicate name.length false) := by
  refine ⟨by simp, fun i hi => ?_⟩
  cases i with
  | zero => simp [Mat]
  | succ i =>
    have : name ≠ [] := by rintro rfl; simp at hi
    simp [Mat, List.getD, this]
    rw [List.getElem?_replicate]; split <;> simp
/-- One sign further. -/
def stepE (p : Pc) (name : List UInt8) (E : List Bool) : List Bool := false :: (List.range name.length).map fun i => E.getD i false && hasP p (name.getD i 0)
def spreadE (p : Pc) (name : List UInt8) (E : List Bool) : Nat → Bool
  | 0 => E.getD 0 false
  | i + 1 => E.getD (i + 1) false || (spreadE p name E i && hasP p (name.getD i 0))
theorem take_snoc' (l : List UInt8) (i : Nat) (h : i < l.length) : l.take (i + 1) = l.take i ++ [l.getD i 0] := by
  rw [List.take_succ_eq_append_getElem h]; simp [List.getD, h]
theorem snoc_inj {u v : List UInt8} {a b : UInt8} (h : u ++ [a] = v ++ [b]) : u = v ∧ a = b := by
  have h1 := List.append_inj' h rfl
  exact ⟨h1.1, by simpa using h1.2⟩
theorem ends_step {ps : List Pc} {p : Pc} {name : List UInt8} {E : List Bool} (hE : Ends ps name E) (hp : p.many = false) : Ends (ps ++ [p]) name (stepE p name E) := by
  refine ⟨by simp [stepE], fun i hi => ?_⟩
  rw [mat_app]
  cases i with
  | zero =>
    simp only [stepE, List.getD_cons_zero, Bool.false_eq_true, List.take_zero, false_iff]
    rintro ⟨u, v, h, _, h2⟩
    rw [mat_one] at h2
    unfold One at h2
    rw [hp] at h2
    obtain ⟨c, rfl, _⟩ := h2
    simp at h
  | succ i =>
    have hlt : i < name.length := by omega
    have e : (stepE p name E).getD (i + 1) false = (E.getD i false && hasP p (name.getD i 0)) := by
      simp [stepE, List.getD, hlt]
    rw [e, Bool.and_eq_true, hE.2 i (by omega), take_snoc' name i hlt]
    constructor
    · rintro ⟨h1, h2⟩
      exact ⟨_, _, rfl, h1, by rw [mat_one]; unfold One; rw [hp]; exact ⟨_, rfl, h2⟩⟩
    · rintro ⟨u, v, h, h1, h2⟩
      rw [mat_one] at h2
      unfold One at h2
      rw [hp] at h2
      obtain ⟨c, rfl, h3⟩ := h2
      obtain ⟨rfl, rfl⟩ := snoc_inj h
      exact ⟨h1, h3⟩
theorem spread_iff {ps : List Pc} {p : Pc} {name : List UInt8} {E : List Bool} (hE : Ends ps name E) (hp : p.many = true) : ∀ i, i ≤ name.length → (spreadE p name E i = true ↔ Mat (ps ++ [p]) (name.take i)) := by
  intro i
  induction i with
  | zero =>
    intro _
    rw [mat_app, spreadE, hE.2 0 (by omega)]
    constructor
    · intro h; exact ⟨_, [], by simp, h, by rw [mat_one]; unfold One; rw [hp]; simp⟩
    · rintro ⟨u, v, h, h1, h2⟩
      simp at h
      rw [h.1] at h1; simpa using h1
  | succ i ih =>
    intro hi
    have hlt : i < name.length := by omega
    rw [spreadE, Bool.or_eq_true, Bool.and_eq_true, hE.2 (i + 1) hi, ih (by omega), take_snoc' name i hlt, mat_app, mat_app]
    constructor
    · rintro (h | ⟨⟨u, v, h, h1, h2⟩, h3⟩)
      · exact ⟨_, [], by simp, h, by rw [mat_one]; unfold One; rw [hp]; simp⟩
      · refine ⟨u, v ++ [name.getD i 0], by rw [h, List.append_assoc], h1, ?_⟩
        rw [mat_one] at h2 ⊢
        unfold One at h2 ⊢
        rw [hp] at h2 ⊢
        simp only [if_true] at h2 ⊢
        intro b hb
        rcases List.mem_append.1 hb with hb | hb
        · exact h2 b hb
        · rw [List.mem_singleton.1 hb]; exact h3
    · rintro ⟨u, v, h, h1, h2⟩
      rcases List.eq_nil_or_concat v with rfl | ⟨v', c, rfl⟩
      · left; rw [h]; simpa using h1
      · right
        rw [List.concat_eq_append] at h h2
        rw [← List.append_assoc] at h
        obtain ⟨h4, rfl⟩ := snoc_inj h
        rw [mat_one] at h2
        unfold One at h2
        rw [hp] at h2
        simp only [if_true] at h2
        refine ⟨⟨u, v', h4, h1, ?_⟩, h2 _ (by simp)⟩
        rw [mat_one]; unfold One; rw [hp]
        intro b hb; exact h2 b (by simp [hb])
def spreadL (p : Pc) (name : List UInt8) (E : List Bool) : List Bool := (List.range (name.length + 1)).map (spreadE p name E)
theorem ends_spread {ps : List Pc} {p : Pc} {name : List UInt8} {E : List Bool} (hE : Ends ps name E) (hp : p.many = true) : Ends (ps ++ [p]) name (spreadL p name E) := by
  refine ⟨by simp [spreadL], fun i hi => ?_⟩
  have e : (spreadL p name E).getD i false = spreadE p name E i := by simp [spreadL, List.getD, show i < name.length + 1 by omega]
  rw [e]; exact spread_iff hE hp i hi
def nextE (p : Pc) (name : List UInt8) (E : List Bool) : List Bool := if p.many then spreadL p name E else stepE p name E
theorem ends_next {ps : List Pc} {p : Pc} {name : List UInt8} {E : List Bool} (hE : Ends ps name E) : Ends (ps ++ [p]) name (nextE p name E) := by
  unfold nextE
  cases hp : p.many
  · exact ends_step hE hp
  · exact ends_spread hE hp
def allE (name : List UInt8) (ps : List Pc) : List Bool := ps.foldl (fun E p => nextE p name E) (true :: List.replicate name.length false)
theorem ends_all (name : List UInt8) (ps : List Pc) : Ends ps name (allE name ps) := by
  have : ∀ (qs ps : List Pc) (E : List Bool), Ends ps name E → Ends (ps ++ qs) name (qs.foldl (fun E p => nextE p name E) E) := by
    intro qs
    induction qs with
    | nil => intro ps E h; simpa using h
    | cons q qs ih => intro ps E h; have := ih (ps ++ [q]) _ (ends_next (p := q) h); simpa using this
  have := this ps [] _ (ends_start name)
  simpa [allE] using this
def matB (ps : List Pc) (name : List UInt8) : Bool := (allE name ps).getD name.length false
theorem matB_iff (ps : List Pc) (name : List UInt8) : matB ps name = true ↔ Mat ps name := by
  have := (ends_all name ps).2 name.length (Nat.le_refl _)
  unfold matB
  rw [this, List.take_length]
theorem allE_len (name : List UInt8) (ps : List Pc) : (allE name ps).length = name.length + 1 := (ends_all name ps).1
end Go.Proofs.Ytaaggfccbbimbaa
