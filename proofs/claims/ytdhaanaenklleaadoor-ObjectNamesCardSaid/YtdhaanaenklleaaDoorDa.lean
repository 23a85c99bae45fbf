/- Plain: in what two rising lists part; by going through both, and by the document. -/
import Derived.Test.YtdhaanaenklleaaDoorMa
namespace Go.Proofs.YtdhaanaenklleaaDoor.D
set_option linter.unusedVariables false
set_option linter.unusedSimpArgs false

/-- A file in a list: its path, its bytes' name. -/
abbrev Inp := ByteArray × (List UInt8 × Unit)
/-- A change: a path, a kind. -/
abbrev Chg := ByteArray × Int
/-- An order of paths. -/
structure Cm (cmp : ByteArray → ByteArray → Int) : Prop where
  neg : ∀ a b, cmp b a = - cmp a b
  zero : ∀ a b, cmp a b = 0 ↔ a = b
  lt : ∀ a b c, cmp a b < 0 → cmp b c < 0 → cmp a c < 0
section
variable {cmp : ByteArray → ByteArray → Int}
theorem Cm.self (h : Cm cmp) (a : ByteArray) : ¬ cmp a a < 0 := by
  have := (h.zero a a).2 rfl
  omega
theorem Cm.asy (h : Cm cmp) {a b : ByteArray} (h1 : cmp a b < 0) : ¬ cmp b a < 0 := by
  have := h.neg a b
  omega
theorem Cm.tri (h : Cm cmp) (a b : ByteArray) : cmp a b < 0 ∨ a = b ∨ cmp b a < 0 := by
  have h1 := h.neg a b
  have h2 := h.zero a b
  by_cases e : a = b
  · exact .inr (.inl e)
  · have : cmp a b ≠ 0 := fun x => e (h2.1 x)
    omega
/-- A list's paths rise. -/
def Ris {X : Type} (cmp : ByteArray → ByteArray → Int) (l : List (ByteArray × X)) : Prop := l.Pairwise fun x y => cmp x.1 y.1 < 0
theorem ris_same (h : Cm cmp) : ∀ (l m : List Chg), Ris cmp l → Ris cmp m → (∀ x, x ∈ l ↔ x ∈ m) → l = m
  | [], [], _, _, _ => rfl
  | [], y :: m, _, _, he => absurd ((he y).2 List.mem_cons_self) (by simp)
  | x :: l, [], _, _, he => absurd ((he x).1 List.mem_cons_self) (by simp)
  | x :: l, y :: m, hl, hm, he => by
    have hl1 := (List.pairwise_cons.1 hl).1
    have hm1 := (List.pairwise_cons.1 hm).1
    have hxy : x = y := by
      rcases List.mem_cons.1 ((he x).1 List.mem_cons_self) with e | e
      · exact e
      · rcases List.mem_cons.1 ((he y).2 List.mem_cons_self) with e' | e'
        · exact e'.symm
        · exact absurd (hl1 y e') (h.asy (hm1 x e))
    subst hxy
    congr 1
    refine ris_same h l m (List.pairwise_cons.1 hl).2 (List.pairwise_cons.1 hm).2 fun z => ⟨fun hz => ?_, fun hz => ?_⟩
    · rcases List.mem_cons.1 ((he z).1 (List.mem_cons_of_mem _ hz)) with e | e
      · subst e; exact absurd (hl1 z hz) (h.self _)
      · exact e
    · rcases List.mem_cons.1 ((he z).2 (List.mem_cons_of_mem _ hz)) with e | e
      · subst e; exact absurd (hm1 z hz) (h.self _)
      · exact e

/-! ### What is there at a path -/
def look : List Inp → ByteArray → Option (List UInt8)
  | [], _ => none
  | f :: r, p => if f.1 = p then some f.2.1 else look r p
theorem look_none {l : List Inp} {p : ByteArray} : look l p = none ↔ ∀ f ∈ l, f.1 ≠ p := by
  induction l with
  | nil => simp [look]
  | cons f r ih =>
    unfold look
    split
    · rename_i h; simp [h]
    · rename_i h; rw [ih]; simp [h]
theorem look_mem {l : List Inp} (h : Cm cmp) (hr : Ris cmp l) {f : Inp} (hf : f ∈ l) : look l f.1 = some f.2.1 := by
  induction l with
  | nil => cases hf
  | cons g r ih =>
    unfold look
    have h1 := (List.pairwise_cons.1 hr).1
    rcases List.mem_cons.1 hf with rfl | hm
    · rw [if_pos rfl]
    · rw [if_neg (fun e => by have := h1 f hm; rw [e] at this; exact h.self _ this)]
      exact ih (List.pairwise_cons.1 hr).2 hm
theorem look_some {l : List Inp} {p : ByteArray} {d : List UInt8} (h : look l p = some d) : ∃ f ∈ l, f.1 = p ∧ f.2.1 = d := by
  induction l with
  | nil => cases h
  | cons g r ih =>
    unfold look at h
    split at h
    · rename_i e; exact ⟨g, List.mem_cons_self, e, Option.some.inj h⟩
    · obtain ⟨f, h1, h2⟩ := ih h
      exact ⟨f, List.mem_cons_of_mem _ h1, h2⟩
def kindOf (a b : List Inp) (p : ByteArray) : Option Int :=
  match look a p, look b p with
  | none, none => none
  | some _, none => some 2
  | none, some _ => some 1
  | some x, some y => if x = y then none else some 3
theorem kindOf_none {a b : List Inp} {p : ByteArray} : kindOf a b p = none ↔ look a p = look b p := by
  unfold kindOf
  split <;> rename_i h1 h2 <;> rw [h1, h2] <;> simp

/-! ### Both gone through -/
def merge (cmp : ByteArray → ByteArray → Int) : List Inp → List Inp → List Chg
  | [], [] => []
  | [], g :: b => (g.1, 1) :: merge cmp [] b
  | f :: a, [] => (f.1, 2) :: merge cmp a []
  | f :: a, g :: b => if cmp f.1 g.1 < 0 then (f.1, 2) :: merge cmp a (g :: b) else if 0 < cmp f.1 g.1 then (g.1, 1) :: merge cmp (f :: a) b else if f.2.1 = g.2.1 then merge cmp a b else (f.1, 3) :: merge cmp a b
termination_by a b => a.length + b.length
theorem merge_from (cmp : ByteArray → ByteArray → Int) (n : Nat) : ∀ (a b : List Inp), a.length + b.length ≤ n → ∀ x ∈ merge cmp a b, (∃ f ∈ a, f.1 = x.1) ∨ (∃ g ∈ b, g.1 = x.1) := by
  induction n with
  | zero =>
    intro a b hn x hx
    obtain rfl := List.eq_nil_of_length_eq_zero (show a.length = 0 by omega)
    obtain rfl := List.eq_nil_of_length_eq_zero (show b.length = 0 by omega)
    rw [merge] at hx; cases hx
  | succ n ih =>
    intro a b hn x hx
    match a, b with
    | [], [] => rw [merge] at hx; cases hx
    | [], g :: b =>
      rw [merge] at hx
      rcases List.mem_cons.1 hx with rfl | h
      · exact .inr ⟨g, List.mem_cons_self, rfl⟩
      · rcases ih [] b (by simp at hn ⊢; omega) x h with ⟨f, hf, _⟩ | ⟨q, hq, e⟩
        · cases hf
        · exact .inr ⟨q, List.mem_cons_of_mem _ hq, e⟩
    | f :: a, [] =>
      rw [merge] at hx
      rcases List.mem_cons.1 hx with rfl | h
      · exact .inl ⟨f, List.mem_cons_self, rfl⟩
      · rcases ih a [] (by simp at hn ⊢; omega) x h with ⟨q, hq, e⟩ | ⟨q, hq, _⟩
        · exact .inl ⟨q, List.mem_cons_of_mem _ hq, e⟩
        · cases hq
    | f :: a, g :: b =>
      rw [merge] at hx
      have up : ∀ {a' b' : List Inp}, (∀ q ∈ a', q ∈ f :: a) → (∀ q ∈ b', q ∈ g :: b) → ((∃ q ∈ a', q.1 = x.1) ∨ (∃ q ∈ b', q.1 = x.1)) → ((∃ q ∈ f :: a, q.1 = x.1) ∨ (∃ q ∈ g :: b, q.1 = x.1)) := by
        intro a' b' h1 h2 h
        rcases h with ⟨q, hq, e⟩ | ⟨q, hq, e⟩
        · exact .inl ⟨q, h1 q hq, e⟩
        · exact .inr ⟨q, h2 q hq, e⟩
      have ca := fun (q : Inp) (hq : q ∈ a) => (List.mem_cons_of_mem f hq)
      have cb := fun (q : Inp) (hq : q ∈ b) => (List.mem_cons_of_mem g hq)
      simp only [List.length_cons] at hn
      split at hx
      · rcases List.mem_cons.1 hx with rfl | h
        · exact .inl ⟨f, List.mem_cons_self, rfl⟩
        · exact up ca (fun q hq => hq) (ih a (g :: b) (by simp; omega) x h)
      · split at hx
        · rcases List.mem_cons.1 hx with rfl | h
          · exact .inr ⟨g, List.mem_cons_self, rfl⟩
          · exact up (fun q hq => hq) cb (ih (f :: a) b (by simp; omega) x h)
        · split at hx
          · exact up ca cb (ih a b (by omega) x hx)
          · rcases List.mem_cons.1 hx with rfl | h
            · exact .inl ⟨f, List.mem_cons_self, rfl⟩
            · exact up ca cb (ih a b (by omega) x h)
theorem ris_head {X : Type} {f : ByteArray × X} {a : List (ByteArray × X)} (h : Ris cmp (f :: a)) : (∀ q ∈ a, cmp f.1 q.1 < 0) ∧ Ris cmp a := List.pairwise_cons.1 h
theorem merge_ris (h : Cm cmp) (n : Nat) : ∀ (a b : List Inp), a.length + b.length ≤ n → Ris cmp a → Ris cmp b → Ris cmp (merge cmp a b) := by
  induction n with
  | zero =>
    intro a b hn ha hb
    obtain rfl := List.eq_nil_of_length_eq_zero (show a.length = 0 by omega)
    obtain rfl := List.eq_nil_of_length_eq_zero (show b.length = 0 by omega)
    rw [merge]; exact List.Pairwise.nil
  | succ n ih =>
    intro a b hn ha hb
    have fr := merge_from cmp (n + 1)
    match a, b with
    | [], [] => rw [merge]; exact List.Pairwise.nil
    | [], g :: b =>
      obtain ⟨b1, b2⟩ := ris_head hb
      rw [merge]
      refine List.pairwise_cons.2 ⟨fun x hx => ?_, ih [] b (by simp at hn ⊢; omega) ha b2⟩
      rcases fr [] b (by simp at hn ⊢; omega) x hx with ⟨f, hf, _⟩ | ⟨q, hq, e⟩
      · cases hf
      · rw [← e]; exact b1 q hq
    | f :: a, [] =>
      obtain ⟨a1, a2⟩ := ris_head ha
      rw [merge]
      refine List.pairwise_cons.2 ⟨fun x hx => ?_, ih a [] (by simp at hn ⊢; omega) a2 hb⟩
      rcases fr a [] (by simp at hn ⊢; omega) x hx with ⟨q, hq, e⟩ | ⟨f, hf, _⟩
      · rw [← e]; exact a1 q hq
      · cases hf
    | f :: a, g :: b =>
      obtain ⟨a1, a2⟩ := ris_head ha
      obtain ⟨b1, b2⟩ := ris_head hb
      simp only [List.length_cons] at hn
      rw [merge]
      split
      · rename_i hlt
        refine List.pairwise_cons.2 ⟨fun x hx => ?_, ih a (g :: b) (by simp; omega) a2 hb⟩
        rcases fr a (g :: b) (by simp; omega) x hx with ⟨q, hq, e⟩ | ⟨q, hq, e⟩
        · rw [← e]; exact a1 q hq
        · rw [← e]
          rcases List.mem_cons.1 hq with rfl | hq
          · exact hlt
          · exact h.lt _ _ _ hlt (b1 q hq)
      · rename_i hlt
        split
        · rename_i hgt
          have hgf : cmp g.1 f.1 < 0 := by have := h.neg f.1 g.1; omega
          refine List.pairwise_cons.2 ⟨fun x hx => ?_, ih (f :: a) b (by simp; omega) ha b2⟩
          rcases fr (f :: a) b (by simp; omega) x hx with ⟨q, hq, e⟩ | ⟨q, hq, e⟩
          · rw [← e]
            rcases List.mem_cons.1 hq with rfl | hq
            · exact hgf
            · exact h.lt _ _ _ hgf (a1 q hq)
          · rw [← e]; exact b1 q hq
        · rename_i hgt
          have he : f.1 = g.1 := (h.zero _ _).1 (by omega)
          split
          · exact ih a b (by omega) a2 b2
          · refine List.pairwise_cons.2 ⟨fun x hx => ?_, ih a b (by omega) a2 b2⟩
            rcases fr a b (by omega) x hx with ⟨q, hq, e⟩ | ⟨q, hq, e⟩
            · rw [← e]; exact a1 q hq
            · rw [← e]
              show cmp f.1 q.1 < 0
              rw [he]; exact b1 q hq
theorem look_lt (h : Cm cmp) {l : List Inp} {p : ByteArray} (hl : ∀ q ∈ l, cmp p q.1 < 0) : look l p = none := look_none.2 fun f hf e => by
  have := hl f hf
  rw [e] at this
  exact h.self _ this
theorem look_ne {f : Inp} {a : List Inp} {p : ByteArray} (h : f.1 ≠ p) : look (f :: a) p = look a p := if_neg h
theorem look_eq {f : Inp} {a : List Inp} {p : ByteArray} (h : f.1 = p) : look (f :: a) p = some f.2.1 := if_pos h
theorem merge_mem (h : Cm cmp) (n : Nat) : ∀ (a b : List Inp), a.length + b.length ≤ n → Ris cmp a → Ris cmp b → ∀ p k, (p, k) ∈ merge cmp a b ↔ kindOf a b p = some k := by
  induction n with
  | zero =>
    intro a b hn ha hb p k
    obtain rfl := List.eq_nil_of_length_eq_zero (show a.length = 0 by omega)
    obtain rfl := List.eq_nil_of_length_eq_zero (show b.length = 0 by omega)
    rw [merge]; simp [kindOf, look]
  | succ n ih =>
    intro a b hn ha hb p k
    match a, b with
    | [], [] => rw [merge]; simp [kindOf, look]
    | [], g :: b =>
      obtain ⟨b1, b2⟩ := ris_head hb
      rw [merge, List.mem_cons, ih [] b (by simp at hn ⊢; omega) ha b2]
      by_cases hp : g.1 = p
      · have hl := look_lt h (l := b) (p := p) (by rw [← hp]; exact b1)
        unfold kindOf
        rw [look_eq hp, hl]
        simp [look, Prod.ext_iff, hp, eq_comm]
      · unfold kindOf
        rw [look_ne hp]
        have : ¬ (p = g.1) := fun e => hp e.symm
        simp [look, Prod.ext_iff, this]
    | f :: a, [] =>
      obtain ⟨a1, a2⟩ := ris_head ha
      rw [merge, List.mem_cons, ih a [] (by simp at hn ⊢; omega) a2 hb]
      by_cases hp : f.1 = p
      · have hl := look_lt h (l := a) (p := p) (by rw [← hp]; exact a1)
        unfold kindOf
        rw [look_eq hp, hl]
        simp [look, Prod.ext_iff, hp, eq_comm]
      · unfold kindOf
        rw [look_ne hp]
        have : ¬ (p = f.1) := fun e => hp e.symm
        simp [look, Prod.ext_iff, this]
    | f :: a, g :: b =>
      obtain ⟨a1, a2⟩ := ris_head ha
      obtain ⟨b1, b2⟩ := ris_head hb
      simp only [List.length_cons] at hn
      rw [merge]
      split
      · rename_i hlt
        rw [List.mem_cons, ih a (g :: b) (by simp; omega) a2 hb]
        by_cases hp : f.1 = p
        · have hl := look_lt h (l := a) (p := p) (by rw [← hp]; exact a1)
          have hl2 := look_lt h (l := g :: b) (p := p) (fun q hq => by
            rw [← hp]
            rcases List.mem_cons.1 hq with rfl | hq
            · exact hlt
            · exact h.lt _ _ _ hlt (b1 q hq))
          unfold kindOf
          rw [look_eq hp, hl, hl2]
          simp [Prod.ext_iff, hp, eq_comm]
        · unfold kindOf
          rw [look_ne (f := f) hp]
          have : ¬ (p = f.1) := fun e => hp e.symm
          simp [Prod.ext_iff, this]
      · rename_i hlt
        split
        · rename_i hgt
          have hgf : cmp g.1 f.1 < 0 := by have := h.neg f.1 g.1; omega
          rw [List.mem_cons, ih (f :: a) b (by simp; omega) ha b2]
          by_cases hp : g.1 = p
          · have hl := look_lt h (l := b) (p := p) (by rw [← hp]; exact b1)
            have hl2 := look_lt h (l := f :: a) (p := p) (fun q hq => by
              rw [← hp]
              rcases List.mem_cons.1 hq with rfl | hq
              · exact hgf
              · exact h.lt _ _ _ hgf (a1 q hq))
            unfold kindOf
            rw [look_eq hp, hl, hl2]
            simp [Prod.ext_iff, hp, eq_comm]
          · unfold kindOf
            rw [look_ne (f := g) hp]
            have : ¬ (p = g.1) := fun e => hp e.symm
            simp [Prod.ext_iff, this]
        · rename_i hgt
          have he : f.1 = g.1 := (h.zero _ _).1 (by omega)
          by_cases hp : f.1 = p
          · have hl := look_lt h (l := a) (p := p) (by rw [← hp]; exact a1)
            have hl2 := look_lt h (l := b) (p := p) (by rw [← hp, he]; exact b1)
            have e3 : kindOf (f :: a) (g :: b) p = if f.2.1 = g.2.1 then none else some 3 := by
              unfold kindOf
              rw [look_eq hp, look_eq (he ▸ hp)]
            have e4 : kindOf a b p = none := kindOf_none.2 (by rw [hl, hl2])
            rw [e3]
            split
            · rw [ih a b (by omega) a2 b2, e4]
            · rw [List.mem_cons, ih a b (by omega) a2 b2, e4]
              simp [Prod.ext_iff, hp, eq_comm]
          · have e3 : kindOf (f :: a) (g :: b) p = kindOf a b p := by
              unfold kindOf
              rw [look_ne hp, look_ne (f := g) (fun e => hp (he.trans e))]
            rw [e3]
            split
            · rw [ih a b (by omega) a2 b2]
            · have : ¬ (p = f.1) := fun e => hp e.symm
              rw [List.mem_cons, ih a b (by omega) a2 b2]
              simp [Prod.ext_iff, this]

/-! ### The document's -/
def baseL (b : List Inp) : List Inp → List Chg
  | [] => []
  | f :: a => match look b f.1 with
    | none => (f.1, 2) :: baseL b a
    | some d => if d = f.2.1 then baseL b a else (f.1, 3) :: baseL b a
/-- How many of the first n, from their end on, stand ahead of p. -/
def atL (cmp : ByteArray → ByteArray → Int) (out : List Chg) (p : ByteArray) : Nat → Nat
  | 0 => 0
  | n + 1 => if 0 < cmp (out.getD n (ByteArray.empty, 0)).1 p then atL cmp out p n else n + 1
def insL (cmp : ByteArray → ByteArray → Int) (out : List Chg) (p : ByteArray) : List Chg := out.take (atL cmp out p out.length) ++ [(p, 1)] ++ out.drop (atL cmp out p out.length)
def ofL (cmp : ByteArray → ByteArray → Int) (a : List Inp) : List Inp → List Chg → List Chg
  | [], out => out
  | f :: b, out => if look a f.1 = none then ofL cmp a b (insL cmp out f.1) else ofL cmp a b out
theorem base_mem (h : Cm cmp) (b : List Inp) : ∀ (a : List Inp), Ris cmp a → ∀ p k, (p, k) ∈ baseL b a ↔ (look a p ≠ none ∧ kindOf a b p = some k)
  | [], _, p, k => by simp [baseL, look]
  | f :: a, hr, p, k => by
    obtain ⟨a1, a2⟩ := ris_head hr
    have ih := base_mem h b a a2 p k
    by_cases hp : f.1 = p
    · have hl := look_lt h (l := a) (p := p) (by rw [← hp]; exact a1)
      have hno : ¬ ((p, k) ∈ baseL b a) := fun hm => (ih.1 hm).1 hl
      unfold baseL kindOf
      rw [look_eq hp, hp]
      cases e : look b p with
      | none =>
        simp only [List.mem_cons, hno, or_false]
        simp [Prod.ext_iff, eq_comm]
      | some d =>
        simp only
        by_cases hd : d = f.2.1
        · rw [if_pos hd, if_pos hd.symm]
          simp [hno]
        · rw [if_neg hd, if_neg (fun e => hd e.symm)]
          simp only [List.mem_cons, hno, or_false]
          simp [Prod.ext_iff, eq_comm]
    · have hne : ¬ (p = f.1) := fun e => hp e.symm
      have e3 : kindOf (f :: a) b p = kindOf a b p := by unfold kindOf; rw [look_ne hp]
      rw [e3, look_ne hp, ← ih]
      have e4 : baseL b (f :: a) = match look b f.1 with | none => (f.1, 2) :: baseL b a | some d => if d = f.2.1 then baseL b a else (f.1, 3) :: baseL b a := rfl
      rw [e4]
      cases look b f.1 with
      | none => simp [Prod.ext_iff, hne]
      | some d => simp only; split <;> simp [Prod.ext_iff, hne]
theorem base_paths (b : List Inp) : ∀ (a : List Inp), ∀ x ∈ baseL b a, ∃ f ∈ a, f.1 = x.1
  | [], x, hx => by cases hx
  | f :: a, x, hx => by
    have up : (∃ q ∈ a, q.1 = x.1) → ∃ q ∈ f :: a, q.1 = x.1 := fun ⟨q, hq, e⟩ => ⟨q, List.mem_cons_of_mem _ hq, e⟩
    unfold baseL at hx
    split at hx
    · rcases List.mem_cons.1 hx with rfl | h
      · exact ⟨f, List.mem_cons_self, rfl⟩
      · exact up (base_paths b a x h)
    · split at hx
      · exact up (base_paths b a x hx)
      · rcases List.mem_cons.1 hx with rfl | h
        · exact ⟨f, List.mem_cons_self, rfl⟩
        · exact up (base_paths b a x h)
theorem base_ris (b : List Inp) : ∀ (a : List Inp), Ris cmp a → Ris cmp (baseL b a)
  | [], _ => List.Pairwise.nil
  | f :: a, hr => by
    obtain ⟨a1, a2⟩ := ris_head hr
    have ih := base_ris b a a2
    have hf : ∀ x ∈ baseL b a, cmp f.1 x.1 < 0 := fun x hx => by
      obtain ⟨q, hq, e⟩ := base_paths b a x hx
      rw [← e]; exact a1 q hq
    unfold baseL
    split
    · exact List.pairwise_cons.2 ⟨hf, ih⟩
    · split
      · exact ih
      · exact List.pairwise_cons.2 ⟨hf, ih⟩
theorem atL_le (out : List Chg) (p : ByteArray) : ∀ n, atL cmp out p n ≤ n
  | 0 => Nat.le_refl _
  | n + 1 => by unfold atL; split; (have := atL_le out p n; omega); exact Nat.le_refl _
theorem atL_more (out : List Chg) (p : ByteArray) : ∀ n i, atL cmp out p n ≤ i → i < n → 0 < cmp (out.getD i (ByteArray.empty, 0)).1 p
  | 0, i, _, h => absurd h (Nat.not_lt_zero _)
  | n + 1, i, h1, h2 => by
    unfold atL at h1
    split at h1
    · rename_i hc
      by_cases e : i = n
      · rw [e]; exact hc
      · exact atL_more out p n i h1 (by omega)
    · omega
theorem atL_less (out : List Chg) (p : ByteArray) : ∀ n, 0 < atL cmp out p n → ¬ 0 < cmp (out.getD (atL cmp out p n - 1) (ByteArray.empty, 0)).1 p
  | 0, h => absurd h (Nat.lt_irrefl _)
  | n + 1, h => by
    unfold atL at h ⊢
    split
    · rename_i hc
      rw [if_pos hc] at h
      exact atL_less out p n h
    · rename_i hc; exact hc
theorem ris_get {l : List Chg} (hr : Ris cmp l) {i j : Nat} (hij : i < j) (hj : j < l.length) : cmp (l.getD i (ByteArray.empty, 0)).1 (l.getD j (ByteArray.empty, 0)).1 < 0 := by
  have := List.pairwise_iff_getElem.1 hr i j (by omega) hj hij
  simpa [List.getD, show i < l.length by omega, hj] using this
theorem insL_mem (out : List Chg) (p : ByteArray) (x : Chg) : x ∈ insL cmp out p ↔ x ∈ out ∨ x = (p, 1) := by
  unfold insL
  rw [List.mem_append, List.mem_append, List.mem_singleton]
  constructor
  · rintro ((h | h) | h)
    · exact .inl (List.mem_of_mem_take h)
    · exact .inr h
    · exact .inl (List.mem_of_mem_drop h)
  · rintro (h | h)
    · rw [← List.take_append_drop (atL cmp out p out.length) out, List.mem_append] at h
      rcases h with h | h
      · exact .inl (.inl h)
      · exact .inr h
    · exact .inl (.inr h)
theorem insL_ris (h : Cm cmp) {out : List Chg} {p : ByteArray} (hr : Ris cmp out) (hp : ∀ x ∈ out, x.1 ≠ p) : Ris cmp (insL cmp out p) := by
  have hle := atL_le (cmp := cmp) out p out.length
  have hmore := atL_more (cmp := cmp) out p out.length
  have hless := atL_less (cmp := cmp) out p out.length
  unfold insL
  generalize atL cmp out p out.length = n at *
  have hlow : ∀ i, i < n → cmp (out.getD i (ByteArray.empty, 0)).1 p < 0 := fun i hi => by
    have h1 := hless (by omega)
    have hne : (out.getD (n - 1) (ByteArray.empty, 0)).1 ≠ p := hp _ (by
      have : n - 1 < out.length := by omega
      simp [List.getD, this])
    have h2 : cmp (out.getD (n - 1) (ByteArray.empty, 0)).1 p < 0 := by
      have := h.zero (out.getD (n - 1) (ByteArray.empty, 0)).1 p
      have h3 : cmp (out.getD (n - 1) (ByteArray.empty, 0)).1 p ≠ 0 := fun e => hne (this.1 e)
      omega
    by_cases e : i = n - 1
    · rw [e]; exact h2
    · exact h.lt _ _ _ (ris_get hr (show i < n - 1 by omega) (by omega)) h2
  have hhigh : ∀ i, n ≤ i → i < out.length → cmp p (out.getD i (ByteArray.empty, 0)).1 < 0 := fun i h1 h2 => by
    have := hmore i h1 h2
    have h3 := h.neg (out.getD i (ByteArray.empty, 0)).1 p
    omega
  have ht : ∀ x ∈ out.take n, cmp x.1 p < 0 := fun x hx => by
    obtain ⟨i, hi⟩ := List.getElem?_of_mem hx
    have hin : i < n := by
      have := (List.getElem?_eq_some_iff.1 hi).1
      rw [List.length_take] at this; omega
    rw [List.getElem?_take_of_lt hin] at hi
    have := hlow i hin
    rw [List.getD_eq_getElem?_getD, hi] at this
    exact this
  have hd : ∀ x ∈ out.drop n, cmp p x.1 < 0 := fun x hx => by
    obtain ⟨i, hi⟩ := List.getElem?_of_mem hx
    rw [List.getElem?_drop] at hi
    have := hhigh (n + i) (by omega) (List.getElem?_eq_some_iff.1 hi).1
    rw [List.getD_eq_getElem?_getD, hi] at this
    exact this
  rw [List.append_assoc]
  refine List.pairwise_append.2 ⟨hr.sublist (List.take_sublist _ _), List.pairwise_cons.2 ⟨hd, hr.sublist (List.drop_sublist _ _)⟩, fun x hx y hy => ?_⟩
  rcases List.mem_append.1 hy with hy | hy
  · rw [List.mem_singleton.1 hy]; exact ht x hx
  · exact h.lt _ _ _ (ht x hx) (hd y hy)
theorem ofL_all (h : Cm cmp) (a : List Inp) : ∀ (b : List Inp) (out : List Chg), Ris cmp b → Ris cmp out → (∀ f ∈ b, look a f.1 = none → ∀ x ∈ out, x.1 ≠ f.1) →
    Ris cmp (ofL cmp a b out) ∧ ∀ x, x ∈ ofL cmp a b out ↔ x ∈ out ∨ ∃ f ∈ b, look a f.1 = none ∧ x = (f.1, 1)
  | [], out, _, ho, _ => ⟨ho, fun x => by simp [ofL]⟩
  | f :: b, out, hb, ho, hn => by
    obtain ⟨b1, b2⟩ := ris_head hb
    unfold ofL
    split
    · rename_i hl
      have hp := hn f List.mem_cons_self hl
      obtain ⟨h1, h2⟩ := ofL_all h a b (insL cmp out f.1) b2 (insL_ris h ho hp) (fun g hg hlg x hx => by
        rcases (insL_mem _ _ _).1 hx with hx | hx
        · exact hn g (List.mem_cons_of_mem _ hg) hlg x hx
        · rw [hx]
          intro e
          have := b1 g hg
          have e' : f.1 = g.1 := e
          rw [e'] at this
          exact h.self _ this)
      refine ⟨h1, fun x => ?_⟩
      rw [h2, insL_mem]
      constructor
      · rintro ((hx | hx) | ⟨g, hg, hlg, hx⟩)
        · exact .inl hx
        · exact .inr ⟨f, List.mem_cons_self, hl, hx⟩
        · exact .inr ⟨g, List.mem_cons_of_mem _ hg, hlg, hx⟩
      · rintro (hx | ⟨g, hg, hlg, hx⟩)
        · exact .inl (.inl hx)
        · rcases List.mem_cons.1 hg with rfl | hg
          · exact .inl (.inr hx)
          · exact .inr ⟨g, hg, hlg, hx⟩
    · rename_i hl
      obtain ⟨h1, h2⟩ := ofL_all h a b out b2 ho (fun g hg hlg => hn g (List.mem_cons_of_mem _ hg) hlg)
      refine ⟨h1, fun x => ?_⟩
      rw [h2]
      constructor
      · rintro (hx | ⟨g, hg, hlg, hx⟩)
        · exact .inl hx
        · exact .inr ⟨g, List.mem_cons_of_mem _ hg, hlg, hx⟩
      · rintro (hx | ⟨g, hg, hlg, hx⟩)
        · exact .inl hx
        · rcases List.mem_cons.1 hg with rfl | hg
          · exact absurd hlg hl
          · exact .inr ⟨g, hg, hlg, hx⟩
/-- THE CHANGES BY THE DOCUMENT ARE THOSE THAT GOING THROUGH BOTH LISTS TELLS. -/
theorem of_merge (h : Cm cmp) {a b : List Inp} (ha : Ris cmp a) (hb : Ris cmp b) : ofL cmp a b (baseL b a) = merge cmp a b := by
  obtain ⟨h1, h2⟩ := ofL_all h a b (baseL b a) hb (base_ris b a ha) (fun f hf hl x hx e => by
    obtain ⟨q, hq, e2⟩ := base_paths b a x hx
    have := look_mem h ha hq
    rw [e2, e, hl] at this
    cases this)
  refine ris_same h _ _ h1 (merge_ris h _ a b (Nat.le_refl _) ha hb) fun x => ?_
  obtain ⟨p, k⟩ := x
  rw [h2, merge_mem h _ a b (Nat.le_refl _) ha hb, base_mem h b a ha]
  constructor
  · rintro (⟨_, hk⟩ | ⟨f, hf, hl, e⟩)
    · exact hk
    · cases e
      unfold kindOf
      rw [hl, look_mem h hb hf]
  · intro hk
    by_cases hl : look a p = none
    · right
      unfold kindOf at hk
      rw [hl] at hk
      cases e : look b p with
      | none => rw [e] at hk; simp at hk
      | some d =>
        rw [e] at hk
        obtain ⟨f, hf, rfl, _⟩ := look_some e
        exact ⟨f, hf, hl, by simpa using hk.symm⟩
    · exact .inl ⟨hl, hk⟩
/-- There and back. -/
def back (x : Chg) : Chg := (x.1, if x.2 = 3 then 3 else 3 - x.2)
theorem merge_back (h : Cm cmp) (n : Nat) : ∀ (a b : List Inp), a.length + b.length ≤ n → merge cmp b a = (merge cmp a b).map back := by
  induction n with
  | zero =>
    intro a b hn
    obtain rfl := List.eq_nil_of_length_eq_zero (show a.length = 0 by omega)
    obtain rfl := List.eq_nil_of_length_eq_zero (show b.length = 0 by omega)
    rw [merge]; rfl
  | succ n ih =>
    intro a b hn
    match a, b with
    | [], [] => rw [merge]; rfl
    | [], g :: b => rw [merge, merge, ih [] b (by simp at hn ⊢; omega)]; rfl
    | f :: a, [] => rw [merge, merge, ih a [] (by simp at hn ⊢; omega)]; rfl
    | f :: a, g :: b =>
      simp only [List.length_cons] at hn
      have hneg := h.neg f.1 g.1
      rw [merge, merge]
      by_cases h1 : cmp f.1 g.1 < 0
      · rw [if_neg (by omega), if_pos (by omega), if_pos h1, ih a (g :: b) (by simp; omega)]; rfl
      · by_cases h2 : 0 < cmp f.1 g.1
        · rw [if_pos (by omega), if_neg h1, if_pos h2, ih (f :: a) b (by simp; omega)]; rfl
        · have he : f.1 = g.1 := (h.zero _ _).1 (by omega)
          rw [if_neg (by omega), if_neg (by omega), if_neg h1, if_neg h2]
          by_cases h3 : f.2.1 = g.2.1
          · rw [if_pos h3, if_pos h3.symm, ih a b (by omega)]
          · rw [if_neg h3, if_neg (fun e => h3 e.symm), ih a b (by omega), List.map_cons, he]; rfl
theorem merge_nil (h : Cm cmp) {a b : List Inp} (ha : Ris cmp a) (hb : Ris cmp b) : merge cmp a b = [] ↔ a = b := by
  constructor
  · intro e
    have hm := merge_mem h _ a b (Nat.le_refl _) ha hb
    rw [e] at hm
    have hk : ∀ p, look a p = look b p := fun p => by
      cases hk : kindOf a b p with
      | none => exact kindOf_none.1 hk
      | some k => exact absurd ((hm p k).2 hk) (by simp)
    clear hm e
    induction a generalizing b with
    | nil =>
      cases b with
      | nil => rfl
      | cons g b => have := hk g.1; rw [look_eq rfl] at this; cases this
    | cons f a ih =>
      cases b with
      | nil => have := hk f.1; rw [look_eq rfl] at this; cases this
      | cons g b =>
        obtain ⟨a1, a2⟩ := ris_head ha
        obtain ⟨b1, b2⟩ := ris_head hb
        have hfg : f.1 = g.1 := by
          rcases h.tri f.1 g.1 with hlt | e | hlt
          · have := hk f.1
            rw [look_eq rfl, look_lt h (l := g :: b) (fun q hq => by
              rcases List.mem_cons.1 hq with rfl | hq
              · exact hlt
              · exact h.lt _ _ _ hlt (b1 q hq))] at this
            cases this
          · exact e
          · have := hk g.1
            rw [look_eq (f := g) rfl, look_lt h (l := f :: a) (fun q hq => by
              rcases List.mem_cons.1 hq with rfl | hq
              · exact hlt
              · exact h.lt _ _ _ hlt (a1 q hq))] at this
            cases this
        have hd := hk f.1
        rw [look_eq rfl, look_eq hfg.symm] at hd
        have hfe : f = g := by
          obtain ⟨fp, fd, fu⟩ := f
          obtain ⟨gp, gd, gu⟩ := g
          simp only at hfg hd
          have := Option.some.inj hd
          subst hfg; subst this; rfl
        subst hfe
        congr 1
        refine ih a2 b2 fun p => ?_
        by_cases hp : f.1 = p
        · rw [look_lt h (by rw [← hp]; exact a1), look_lt h (by rw [← hp]; exact b1)]
        · have := hk p
          rwa [look_ne hp, look_ne hp] at this
  · rintro rfl
    cases e : merge cmp a a with
    | nil => rfl
    | cons x l =>
      have := (merge_mem h _ a a (Nat.le_refl _) ha ha x.1 x.2).1 (by rw [e]; exact List.mem_cons_self)
      rw [kindOf_none.2 rfl] at this
      cases this
theorem merge_joins (h : Cm cmp) {a b c : List Inp} (ha : Ris cmp a) (hb : Ris cmp b) (hc : Ris cmp c) {x : Chg} (hx : x ∈ merge cmp a c) : (∃ y ∈ merge cmp a b, x.1 = y.1) ∨ (∃ y ∈ merge cmp b c, x.1 = y.1) := by
  have h1 := (merge_mem h _ a c (Nat.le_refl _) ha hc x.1 x.2).1 hx
  cases h2 : kindOf a b x.1 with
  | some k => exact .inl ⟨(x.1, k), (merge_mem h _ a b (Nat.le_refl _) ha hb x.1 k).2 h2, rfl⟩
  | none =>
    cases h3 : kindOf b c x.1 with
    | some k => exact .inr ⟨(x.1, k), (merge_mem h _ b c (Nat.le_refl _) hb hc x.1 k).2 h3, rfl⟩
    | none =>
      have := kindOf_none.2 ((kindOf_none.1 h2).trans (kindOf_none.1 h3))
      rw [h1] at this
      cases this
end
end Go.Proofs.YtdhaanaenklleaaDoor.D
