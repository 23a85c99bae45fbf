/- A region that draws its order: each operation by what it yields: no order is gone through; Walks: a commit's bytes, read by the code; What the walk of the statement ObjectBack leans on; Walks: the statement ObjectBack; The walk of the statement ObjectBack, of cells. -/
import Derived.BigQuiet
import Derived.Below
import Derived.Test.YtdhaanaenklleaaDoorN5
namespace Go.Proofs.YtdhaanaenklleaaDoor.K3
open Go.RowKit
set_option linter.unusedVariables false
set_option linter.unusedSimpArgs false

/-- What an operation leaves in its slot. -/
def sptr (o : Oper) : Option Tmp := match o.op with | .store _ (.tmp t) _ => some t | _ => none
def pval (a : Act) (o : Oper) : Value := match sptr o with | some t => a.tmps.getD t undef | none => undef
def dval (a : Act) (o : Oper) : Value := match o.dst with | some d => a.tmps.getD d undef | none => pval a o
/-- What an operation comes to. -/
def Out (P : Program) (o : Oper) (ρ : Operand → Value) (w : World) (φ : Value → World → Prop) : Prop :=
  match (execOp ρ o).run P w with
  | .ok (.value v) w' => φ v w'
  | .ok .skip w' => φ undef w'
  | .ok (.enter f args) w' => Calls P f args w' fun e w'' => ∃ v, e = .returned v ∧ φ v w''
  | _ => False
theorem Out.wp {P : Program} {o : Oper} {a : Act} {w : World} {φ : Value → World → Prop} {K : Act → World → Prop} {Q : Exit → Act → World → Prop} (h : Out P o a.eval w φ) (hK : ∀ v w', φ v w' → K (a.put o.dst v) w') : Oper.wp P o a w K Q := by
  unfold Out at h
  unfold Oper.wp
  generalize (execOp a.eval o).run P w = r at *
  cases r with
  | ok n w' =>
    cases n <;> simp only at h <;> simp only [Oper.upon]
    case value u => exact hK _ _ h
    case skip => exact hK _ _ h
    case enter f args =>
      exact h.mono fun e w'' ⟨v, he, hφ⟩ => by subst he; exact hK v w'' hφ
    all_goals exact h.elim
  | halt x w' => exact h.elim

/-- What comes ahead of an operation. -/
inductive Anc (ops : Array Oper) : Nat → Nat → Prop
  | edge {i : Nat} {o : Oper} {e : Edge} (hi : ops[i]? = some o) (he : e ∈ o.after) (hb : Region.binds .any e = true) : Anc ops i e.on
  | far {i k : Nat} {o : Oper} {e : Edge} (hi : ops[i]? = some o) (he : e ∈ o.after) (hb : Region.binds .any e = true) (h : Anc ops e.on k) : Anc ops i k
def maskOf (ms : List Nat) (l : List Edge) : Nat := l.foldr (fun e m => if Region.binds .any e then (m ||| 2 ^ e.on) ||| ms.getD e.on 0 else m) 0
def masks : List Oper → List Nat → List Nat
  | [], ms => ms
  | o :: r, ms => masks r (ms ++ [maskOf ms o.after.toList])
theorem maskOf_spec {ms : List Nat} {k : Nat} : ∀ {l : List Edge}, (maskOf ms l).testBit k = true → ∃ e ∈ l, Region.binds .any e = true ∧ (e.on = k ∨ (ms.getD e.on 0).testBit k = true) := by
  intro l
  induction l with
  | nil => intro h; simp [maskOf] at h
  | cons e r ih =>
    intro h
    have he : maskOf ms (e :: r) = if Region.binds .any e then (maskOf ms r ||| 2 ^ e.on) ||| ms.getD e.on 0 else maskOf ms r := rfl
    rw [he] at h
    split at h
    · rename_i hb
      rw [Nat.testBit_or, Nat.testBit_or, Nat.testBit_two_pow, Bool.or_eq_true, Bool.or_eq_true] at h
      rcases h with (h | h) | h
      · obtain ⟨e', h1, h2⟩ := ih h; exact ⟨e', List.mem_cons_of_mem _ h1, h2⟩
      · exact ⟨e, List.mem_cons_self, hb, .inl (of_decide_eq_true h)⟩
      · exact ⟨e, List.mem_cons_self, hb, .inr h⟩
    · obtain ⟨e', h1, h2⟩ := ih h; exact ⟨e', List.mem_cons_of_mem _ h1, h2⟩
theorem masks_spec (ops : Array Oper) : ∀ (l : List Oper) (ms : List Nat), (∀ j, l[j]? = ops[ms.length + j]?) → (∀ i k, (ms.getD i 0).testBit k = true → Anc ops i k) → ∀ i k, ((masks l ms).getD i 0).testBit k = true → Anc ops i k := by
  intro l
  induction l with
  | nil => intro ms _ h; exact h
  | cons o r ih =>
    intro ms hl h
    refine ih (ms ++ [maskOf ms o.after.toList]) (fun j => by have := hl (j + 1); simpa [Nat.add_assoc, Nat.add_comm 1 j] using this) ?_
    intro i k hk
    by_cases hi : i < ms.length
    · refine h i k ?_
      rw [List.getD_eq_getElem?_getD, List.getElem?_append_left hi] at hk
      rwa [List.getD_eq_getElem?_getD]
    · by_cases hi2 : i = ms.length
      · subst hi2
        rw [List.getD_eq_getElem?_getD, List.getElem?_append_right (Nat.le_refl _), Nat.sub_self] at hk
        obtain ⟨e, h1, h2, h3⟩ := maskOf_spec (show (maskOf ms o.after.toList).testBit k = true from hk)
        have ho : ops[ms.length]? = some o := by simpa using (hl 0).symm
        rcases h3 with h3 | h3
        · rw [← h3]; exact .edge ho (by simpa using h1) h2
        · exact .far ho (by simpa using h1) h2 (h _ _ h3)
      · rw [List.getD_eq_getElem?_getD, List.getElem?_eq_none (by simp; omega)] at hk
        simp at hk

def needs (ops : Array Oper) (o : Oper) : List Nat :=
  (o.after.toList.filter fun e => Region.binds .any e && (match ops[e.on]? with | some x => (match x.dst with | some d => (o.looksAt ops).contains d | none => false) | none => false)).map (·.on)
/-- The checks: s: 2 where what is yielded holds whatever new memory becomes; kd: 2 for an operation that writes memory made in the region; kl: whose yields it spoils. -/
def relB (l : List Oper) (s kd : List Nat) (kl : List (List Nat)) : Bool :=
  let ops := l.toArray
  let ms := masks l []
  let N := List.range l.length
  let at_ := fun i => (l[i]?.map (·.after.toList)).getD []
  let dst := fun i => (l[i]?.bind (·.dst))
  let nd := N.map fun i => (l[i]?.map (needs ops)).getD []
  (N.all fun i => N.all fun j => i == j || dst i == none || dst i != dst j) &&
  (N.all fun i => ((l[i]?.map (·.looksAt ops)).getD []).all fun t => N.all fun j => dst j != some t || (nd.getD i []).contains j || i == j || (ms.getD j 0).testBit i) &&
  (N.all fun i' => (kl.getD i' []).all fun k => N.all fun i => !(nd.getD i []).contains k || i == i' || (ms.getD i' 0).testBit i) &&
  (N.all fun i' => kd.getD i' 1 != 2 || N.all fun j => j == i' || (kl.getD i' []).contains j || s.getD j 1 == 2 || (ms.getD j 0).testBit i') &&
  (N.all fun i => (at_ i).all fun e => !Region.binds .any e || decide (e.on < i)) &&
  (N.all fun j => N.all fun i => (l[j]?.bind sptr) == none || dst i != (l[j]?.bind sptr) || (nd.getD j []).contains i)

def eff (a : Act) (o : Oper) (v : Value) : Value := match o.dst with | some _ => v | none => pval a o
/-- It comes ahead of each operation that writes. -/
def earlyB (l : List Oper) (kd : List Nat) (i : Nat) : Bool := (List.range l.length).all fun i' => kd.getD i' 1 != 2 || ((masks l []).getD i' 0).testBit i
section
variable {P : Program} {l : List Oper} {a0 : Act} {w0 : World} {N0 : Nat} {R : Nat → Value → World → Prop} {s kd : List Nat} {kl : List (List Nat)} {Q : Exit → Act → World → Prop}
/-- What is asked of an operation. -/
def Hop (P : Program) (l : List Oper) (a0 : Act) (w0 : World) (N0 : Nat) (R : Nat → Value → World → Prop) (kd : List Nat) (i : Nat) (o : Oper) : Prop :=
  ∀ (a : Act) (w : World), Below N0 w0 w → N0 ≤ w.heap.size → (earlyB l kd i = true → Below w0.heap.size w0 w) → (∀ k ∈ needs l.toArray o, ∀ ok, l[k]? = some ok → R k (dval a ok) w) →
    (∀ t ∈ o.looksAt l.toArray, (∀ k ∈ needs l.toArray o, ∀ ok, l[k]? = some ok → ok.dst ≠ some t) → a.tmps.getD t undef = a0.tmps.getD t undef) →
    if Region.wanted o (yielded l.toArray a.tmps) = true then Out P o a.eval w (fun v w' => R i (eff a o v) w' ∧ (if kd.getD i 1 = 2 then Below N0 w w' else Below w.heap.size w w')) else R i (eff a o undef) w
structure Inv (l : List Oper) (a0 : Act) (w0 : World) (N0 : Nat) (R : Nat → Value → World → Prop) (kd : List Nat) (kl : List (List Nat)) (listed : Array Bool) (a : Act) (w : World) : Prop where
  size : listed.size = l.length
  closed : ∀ j oj, l[j]? = some oj → listed.getD j false = true → ∀ e ∈ oj.after, Region.binds .any e = true → listed.getD e.on false = true
  below : Below N0 w0 w
  below2 : (∀ i, listed.getD i false = true → kd.getD i 1 ≠ 2) → Below w0.heap.size w0 w
  yields : ∀ j oj, l[j]? = some oj → listed.getD j false = true → (∀ i, listed.getD i false = true → j ∉ kl.getD i []) → R j (dval a oj) w
  frame : ∀ t, (∀ j oj, l[j]? = some oj → oj.dst = some t → listed.getD j false = false) → a.tmps.getD t undef = a0.tmps.getD t undef
  tmps : a.tmps.size = a0.tmps.size
  defers : a.defers = a0.defers
theorem Inv.anc {listed : Array Bool} {a : Act} {w : World} (h : Inv l a0 w0 N0 R kd kl listed a w) {i k : Nat} (ha : Anc l.toArray i k) : listed.getD i false = true → listed.getD k false = true := by
  induction ha with
  | edge hi he hb => intro hl; exact h.closed _ _ (by simpa using hi) hl _ he hb
  | far hi he hb _ ih => intro hl; exact ih (h.closed _ _ (by simpa using hi) hl _ he hb)
theorem put_get (a : Act) (dst : Option Tmp) (v : Value) (t : Tmp) (h : dst ≠ some t) : (a.put dst v).tmps.getD t undef = a.tmps.getD t undef := by
  cases dst with
  | none => rfl
  | some d =>
    have hne : d ≠ t := fun e => h (by rw [e])
    show (a.tmps.setIfInBounds d v).getD t undef = _
    simp [Array.getD_eq_getD_getElem?, Array.getElem?_setIfInBounds, hne]
theorem put_val (a : Act) (o : Oper) (v : Value) (hd : ∀ d, o.dst = some d → d < a.tmps.size) : dval (a.put o.dst v) o = eff a o v := by
  unfold dval eff
  cases hdd : o.dst with
  | none => rfl
  | some d =>
    show (a.tmps.setIfInBounds d v).getD d undef = v
    simp [Array.getD_eq_getD_getElem?, hd d hdd]
theorem put_size (a : Act) (dst : Option Tmp) (v : Value) : (a.put dst v).tmps.size = a.tmps.size := by
  cases dst with
  | none => rfl
  | some d => show (a.tmps.setIfInBounds d v).size = _; simp
theorem put_defers (a : Act) (dst : Option Tmp) (v : Value) : (a.put dst v).defers = a.defers := by cases dst <;> rfl
theorem set_ne {listed : Array Bool} {i j : Nat} (b : Bool) (h : i ≠ j) : (listed.setIfInBounds i true).getD j b = listed.getD j b := by
  simp [Array.getD_eq_getD_getElem?, Array.getElem?_setIfInBounds, h]
theorem set_eq {listed : Array Bool} {i : Nat} (h : i < listed.size) (b : Bool) : (listed.setIfInBounds i true).getD i b = true := by
  simp [Array.getD_eq_getD_getElem?, h]
theorem get_in {listed : Array Bool} {i : Nat} (h : listed.getD i true = false) : i < listed.size ∧ listed.getD i false = false := by
  rcases Nat.lt_or_ge i listed.size with h' | h'
  · simp [h'] at h ⊢; exact h
  · simp [Array.getElem?_eq_none h'] at h
theorem get_true {listed : Array Bool} {i : Nat} (h : i < listed.size) (h2 : listed.getD i true ≠ false) : listed.getD i false = true := by
  simp [h] at h2 ⊢; exact h2
/-- The checks, read. -/
structure Checks (l : List Oper) (s kd : List Nat) (kl : List (List Nat)) : Prop where
  c1 : ∀ (i j : Nat) (oi oj : Oper) (d : Tmp), l[i]? = some oi → l[j]? = some oj → oi.dst = some d → oj.dst = some d → i = j
  c2 : ∀ (i : Nat) (o : Oper) (t : Tmp) (j : Nat) (oj : Oper), l[i]? = some o → t ∈ o.looksAt l.toArray → l[j]? = some oj → oj.dst = some t → j ∈ needs l.toArray o ∨ i = j ∨ Anc l.toArray j i
  c3 : ∀ (i' k : Nat), i' < l.length → k ∈ kl.getD i' [] → ∀ (i : Nat) (o : Oper), l[i]? = some o → k ∈ needs l.toArray o → i = i' ∨ Anc l.toArray i' i
  c4 : ∀ (i' : Nat), i' < l.length → kd.getD i' 1 = 2 → ∀ (j : Nat) (oj : Oper), l[j]? = some oj → j = i' ∨ j ∈ kl.getD i' [] ∨ s.getD j 1 = 2 ∨ Anc l.toArray j i'
  c5 : ∀ (i : Nat) (o : Oper), l[i]? = some o → ∀ e ∈ o.after, Region.binds .any e = true → e.on < i
  c6 : ∀ (j i : Nat) (oj oi : Oper) (t : Tmp), l[j]? = some oj → l[i]? = some oi → sptr oj = some t → oi.dst = some t → i ∈ needs l.toArray oj
theorem relB_spec (h : relB l s kd kl = true) : Checks l s kd kl := by
  unfold relB at h
  simp only [Bool.and_eq_true, List.all_eq_true, List.mem_range, Bool.or_eq_true, beq_iff_eq, bne_iff_ne, decide_eq_true_iff, Bool.not_eq_true'] at h
  obtain ⟨⟨⟨⟨⟨h1, h2⟩, h3⟩, h4⟩, h5⟩, h6⟩ := h
  have hms := masks_spec l.toArray l [] (fun j => by simp) (fun i k hk => by simp at hk)
  have hnd : ∀ i o, l[i]? = some o → ((List.range l.length).map fun i => (l[i]?.map (needs l.toArray)).getD []).getD i [] = needs l.toArray o := by
    intro i o hi
    have hil := (List.getElem?_eq_some_iff.1 hi).1
    simp [List.getD, hil, (List.getElem?_eq_some_iff.1 hi).2]
  constructor
  · intro i j oi oj d hi hj hdi hdj
    have h := h1 i (List.getElem?_eq_some_iff.1 hi).1 j (List.getElem?_eq_some_iff.1 hj).1
    simp [hi, hj, hdi, hdj] at h
    exact h
  · intro i o t j oj hi ht hj hd
    have h := h2 i (List.getElem?_eq_some_iff.1 hi).1 t (by simpa [hi] using ht) j (List.getElem?_eq_some_iff.1 hj).1
    rw [hnd i o hi] at h
    rcases h with ((h | h) | h) | h
    · simp [hj, hd] at h
    · exact .inl (by simpa using h)
    · exact .inr (.inl h)
    · exact .inr (.inr (hms _ _ h))
  · intro i' k hi' hk i o hi hn
    have h := h3 i' hi' k hk i (List.getElem?_eq_some_iff.1 hi).1
    rw [hnd i o hi] at h
    rcases h with (h | h) | h
    · rw [List.contains_eq_mem, decide_eq_false_iff_not] at h; exact absurd hn h
    · exact .inl h
    · exact .inr (hms _ _ h)
  · intro i' hi' hkd j oj hj
    have h := h4 i' hi'
    rcases h with h | h
    · exact absurd hkd h
    · have h := h j (List.getElem?_eq_some_iff.1 hj).1
      rcases h with ((h | h) | h) | h
      · exact .inl h
      · exact .inr (.inl (by simpa using h))
      · exact .inr (.inr (.inl h))
      · exact .inr (.inr (.inr (hms _ _ h)))
  · intro i o hi e he hb
    have h := h5 i (List.getElem?_eq_some_iff.1 hi).1 e (by simpa [hi] using he)
    rcases h with h | h
    · rw [hb] at h; cases h
    · exact h
  · intro j i oj oi t hj hi hs hd
    have h := h6 j (List.getElem?_eq_some_iff.1 hj).1 i (List.getElem?_eq_some_iff.1 hi).1
    rw [hnd j oj hj] at h
    rcases h with (h | h) | h
    · simp [hj, hs] at h
    · simp [hj, hi, hs, hd] at h
    · simpa using h
theorem inv_step (hc : Checks l s kd kl) (hst1 : ∀ j v w w', R j v w → Below w.heap.size w w' → R j v w') (hst2 : ∀ j v w w', s.getD j 1 = 2 → R j v w → Below N0 w0 w → Below N0 w w' → R j v w')
    (hds : ∀ (i : Nat) (o : Oper) (d : Tmp), l[i]? = some o → o.dst = some d → d < a0.tmps.size) (hN : N0 ≤ w0.heap.size) {listed : Array Bool} {a : Act} {w w' : World} (h : Inv l a0 w0 N0 R kd kl listed a w) {i : Nat} {o : Oper} {v : Value} (hi : l[i]? = some o) (hun : listed.getD i true = false)
    (hre : ∀ e ∈ o.after, Region.binds .any e = true → listed.getD e.on false = true) (hR : R i (eff a o v) w') (hstep : if kd.getD i 1 = 2 then Below N0 w w' else Below w.heap.size w w') :
    Inv l a0 w0 N0 R kd kl (listed.setIfInBounds i true) (a.put o.dst v) w' := by
  obtain ⟨hin, hunf⟩ := get_in hun
  have hNw : N0 ≤ w.heap.size := Nat.le_trans hN h.below.size
  have hB : Below N0 w w' := by
    split at hstep
    · exact hstep
    · exact hstep.mono hNw
  refine ⟨by simpa using h.size, ?_, h.below.trans hB, fun hno => ?_, ?_, ?_, by rw [put_size]; exact h.tmps, by rw [put_defers]; exact h.defers⟩
  · intro j oj hj hl e he hb
    have hon : listed.getD e.on false = true := by
      by_cases hij : i = j
      · subst hij
        obtain rfl : o = oj := Option.some.inj (hi.symm.trans hj)
        exact hre e he hb
      · rw [set_ne false hij] at hl
        exact h.closed j oj hj hl e he hb
    by_cases hie : i = e.on
    · rw [← hie]; exact set_eq hin false
    · rw [set_ne false hie]; exact hon
  · have h1 : kd.getD i 1 ≠ 2 := hno i (set_eq hin false)
    have h2 : Below w0.heap.size w0 w := h.below2 fun k hk => hno k (by
      by_cases hik : i = k
      · rw [← hik]; exact set_eq hin false
      · rw [set_ne false hik]; exact hk)
    rw [if_neg h1] at hstep
    exact h2.trans (hstep.mono h2.size)
  · intro j oj hj hl hk
    by_cases hij : i = j
    · subst hij
      obtain rfl : o = oj := Option.some.inj (hi.symm.trans hj)
      rw [put_val a o v (fun d hd => by rw [h.tmps]; exact hds i o d hi hd)]
      exact hR
    · rw [set_ne false hij] at hl
      have hold := h.yields j oj hj hl (fun k hkl => hk k (by
        by_cases hik : i = k
        · rw [← hik]; exact set_eq hin false
        · rw [set_ne false hik]; exact hkl))
      have hdv : dval (a.put o.dst v) oj = dval a oj := by
        unfold dval
        cases hdd : oj.dst with
        | none =>
          show pval (a.put o.dst v) oj = pval a oj
          unfold pval
          cases hsp : sptr oj with
          | none => rfl
          | some t =>
            refine put_get a o.dst v t (fun e => ?_)
            have h6 := hc.c6 j i oj o t hj hi hsp e
            unfold needs at h6
            obtain ⟨e', he', rfl⟩ := List.mem_map.1 h6
            obtain ⟨he1, he2⟩ := List.mem_filter.1 he'
            have hb : Region.binds .any e' = true := by simp only [Bool.and_eq_true] at he2; exact he2.1
            have := h.closed j oj hj hl e' (by simpa using he1) hb
            rw [hunf] at this; cases this
        | some d => exact put_get a o.dst v d (fun e => hij (hc.c1 i j o oj d hi hj e hdd))
      rw [hdv]
      split at hstep
      · rename_i hk2
        rcases hc.c4 i (by rw [← h.size]; exact hin) hk2 j oj hj with h4 | h4 | h4 | h4
        · exact absurd h4.symm hij
        · exact absurd h4 (hk i (set_eq hin false))
        · exact hst2 j _ w w' h4 hold h.below hstep
        · have := h.anc h4 hl; rw [hunf] at this; cases this
      · exact hst1 j _ w w' hold hstep
  · intro t ht
    have hne : o.dst ≠ some t := fun e => by have := ht i o hi e; rw [set_eq hin false] at this; cases this
    rw [put_get a o.dst v t hne]
    refine h.frame t (fun j oj hj hd => ?_)
    have := ht j oj hj hd
    by_cases hij : i = j
    · subst hij; exact hunf
    · rwa [set_ne false hij] at this
def cntK (listed : Array Bool) : Nat → Nat | 0 => 0 | n + 1 => cntK listed n + (if listed.getD n true = false then 1 else 0)
theorem cntK_ge {listed : Array Bool} {i : Nat} : ∀ n, n ≤ i → cntK (listed.setIfInBounds i true) n = cntK listed n := by
  intro n
  induction n with
  | zero => intro _; rfl
  | succ n ih => intro h; show cntK _ n + _ = cntK _ n + _; rw [ih (by omega), set_ne true (by omega)]
theorem cntK_set {listed : Array Bool} {i : Nat} (h : listed.getD i true = false) : ∀ n, i < n → cntK (listed.setIfInBounds i true) n + 1 = cntK listed n := by
  intro n
  induction n with
  | zero => intro hn; omega
  | succ n ih =>
    intro hn
    show cntK _ n + _ + 1 = cntK _ n + _
    by_cases hin : i = n
    · subst hin
      rw [cntK_ge i (Nat.le_refl _), set_eq (get_in h).1 true, h]; simp
    · rw [set_ne true hin, ← ih (by omega)]; omega
theorem cntK_zero {listed : Array Bool} : ∀ n, cntK listed n = 0 → ∀ j, j < n → listed.getD j true ≠ false := by
  intro n
  induction n with
  | zero => intro _ j hj; omega
  | succ n ih =>
    intro h j hj
    have h' : cntK listed n + (if listed.getD n true = false then 1 else 0) = 0 := h
    by_cases hjn : j = n
    · subst hjn; intro e; rw [if_pos e] at h'; omega
    · exact ih (by omega) j (by omega)
theorem rel_any (hc : Checks l s kd kl) (hst1 : ∀ j v w w', R j v w → Below w.heap.size w w' → R j v w') (hst2 : ∀ j v w w', s.getD j 1 = 2 → R j v w → Below N0 w0 w → Below N0 w w' → R j v w')
    (hds : ∀ (i : Nat) (o : Oper) (d : Tmp), l[i]? = some o → o.dst = some d → d < a0.tmps.size) (hN : N0 ≤ w0.heap.size) (hop : ∀ i o, l[i]? = some o → Hop P l a0 w0 N0 R kd i o)
    (hend : ∀ a w, Below N0 w0 w → (∀ (j : Nat) (oj : Oper), l[j]? = some oj → (∀ i, j ∉ kl.getD i []) → R j (dval a oj) w) → (∀ t, (∀ (j : Nat) (oj : Oper), l[j]? = some oj → oj.dst ≠ some t) → a.tmps.getD t undef = a0.tmps.getD t undef) → a.tmps.size = a0.tmps.size → a.defers = a0.defers → Q .normal a w) :
    ∀ (fuel : Nat) (listed : Array Bool) (a : Act) (w : World), Inv l a0 w0 N0 R kd kl listed a w → cntK listed l.length ≤ fuel → wpAny P .any l.toArray Q fuel listed a w := by
  have hfin : ∀ (listed : Array Bool) (a : Act) (w : World), Inv l a0 w0 N0 R kd kl listed a w → (∀ j, j < l.length → listed.getD j true ≠ false) → Q .normal a w := by
    intro listed a w hI hall
    refine hend a w hI.below (fun j oj hj hk => hI.yields j oj hj (get_true (by rw [hI.size]; exact (List.getElem?_eq_some_iff.1 hj).1) (hall j (List.getElem?_eq_some_iff.1 hj).1)) (fun i _ => hk i)) (fun t ht => hI.frame t (fun j oj hj hd => absurd hd (ht j oj hj))) hI.tmps hI.defers
  have hrd : ∀ (listed : Array Bool) (a : Act) (w : World), Inv l a0 w0 N0 R kd kl listed a w → Region.ready .any l.toArray listed = [] → ∀ j, j < l.length → listed.getD j true ≠ false := by
    intro listed a w hI hr j
    induction j using Nat.strongRecOn with
    | _ j ih =>
      intro hj hun
      have hm : j ∈ Region.ready .any l.toArray listed := mem_ready.2 ⟨hun, l[j], by simp [hj], fun e he hb => by
        have hlt := hc.c5 j l[j] (by simp [hj]) e he hb
        exact get_true (by rw [hI.size]; omega) (ih e.on hlt (by omega))⟩
      rw [hr] at hm; cases hm
  intro fuel
  induction fuel with
  | zero =>
    intro listed a w hI hcn
    have hall := cntK_zero (listed := listed) l.length (by omega)
    refine ⟨?_, hfin listed a w hI hall⟩
    rw [List.eq_nil_iff_forall_not_mem]
    intro j hj
    obtain ⟨h1, o, h2, _⟩ := mem_ready.1 hj
    exact hall j (by have := (Array.getElem?_eq_some_iff.1 h2).1; simpa using this) h1
  | succ fuel ih =>
    intro listed a w hI hcn
    refine ⟨fun hr => hfin listed a w hI (hrd listed a w hI hr), fun i hi => ?_⟩
    obtain ⟨hun, o, ho, hre⟩ := mem_ready.1 hi
    have hlo : l[i]? = some o := by simpa using ho
    have hil := (List.getElem?_eq_some_iff.1 hlo).1
    obtain ⟨hin, hunf⟩ := get_in hun
    have hcs := cntK_set hun l.length hil
    have hH := hop i o hlo a w hI.below (Nat.le_trans hN hI.below.size) (fun he => hI.below2 fun i' hli' hk2 => by
        have hi'l : i' < l.length := by
          rw [← hI.size]
          rcases Nat.lt_or_ge i' listed.size with h' | h'
          · exact h'
          · simp [Array.getElem?_eq_none h'] at hli'
        unfold earlyB at he
        have h1 := List.all_eq_true.1 he i' (List.mem_range.2 hi'l)
        rw [Bool.or_eq_true] at h1
        rcases h1 with h1 | h1
        · rw [bne_iff_ne] at h1; exact h1 hk2
        · have := hI.anc (masks_spec l.toArray l [] (fun j => by simp) (fun i k hk => by simp at hk) _ _ h1) hli'
          rw [hunf] at this; cases this) (by
        intro k hk ok hok
        unfold needs at hk
        obtain ⟨e, he, rfl⟩ := List.mem_map.1 hk
        obtain ⟨he1, he2⟩ := List.mem_filter.1 he
        have hb : Region.binds .any e = true := by simp only [Bool.and_eq_true] at he2; exact he2.1
        refine hI.yields e.on ok hok (hre e (by simpa using he1) hb) (fun i' hli' hkl => ?_)
        have hi'l : i' < l.length := by
          rw [← hI.size]
          rcases Nat.lt_or_ge i' listed.size with h' | h'
          · exact h'
          · simp [Array.getElem?_eq_none h'] at hli'
        rcases hc.c3 i' e.on hi'l hkl i o hlo (by unfold needs; exact hk) with h3 | h3
        · subst h3; rw [hunf] at hli'; cases hli'
        · have := hI.anc h3 hli'; rw [hunf] at this; cases this)
      (by
        intro t ht hn
        refine hI.frame t (fun j oj hj hd => ?_)
        rcases hc.c2 i o t j oj hlo ht hj hd with h2 | h2 | h2
        · exact absurd hd (hn j h2 oj hj)
        · subst h2; exact hunf
        · cases hlj : listed.getD j false with
          | false => rfl
          | true => have := hI.anc h2 hlj; rw [hunf] at this; cases this)
    unfold wpOp
    simp only [ho]
    split
    · rename_i hw
      rw [if_pos hw] at hH
      left
      refine hH.wp (fun v w' ⟨h1, h2⟩ => ?_)
      exact ih _ _ _ (inv_step hc hst1 hst2 hds hN hI hlo hun hre h1 h2) (by omega)
    · rename_i hw
      rw [if_neg hw] at hH
      refine ih _ _ _ (inv_step (v := undef) (w' := w) hc hst1 hst2 hds hN hI hlo hun hre hH ?_) (by omega)
      split
      · exact Below.refl _ _
      · exact Below.refl _ _
/-- A region that draws its order, by what each of its operations yields. -/
theorem wp_region_rel2 {id : Nat} {a : Act} {w : World} (N0 : Nat) (hN : N0 ≤ w.heap.size) (R : Nat → Value → World → Prop) (s kd : List Nat) (kl : List (List Nat)) (hm : P.follows .mixedOrders = true) (hB : relB l s kd kl = true)
    (hst1 : ∀ j v w1 w2, R j v w1 → Below w1.heap.size w1 w2 → R j v w2) (hst2 : ∀ j v w1 w2, s.getD j 1 = 2 → R j v w1 → Below N0 w.drew w1 → Below N0 w1 w2 → R j v w2)
    (hds : ∀ (i : Nat) (o : Oper) (d : Tmp), l[i]? = some o → o.dst = some d → d < a.tmps.size) (hop : ∀ i o, l[i]? = some o → Hop P l a w.drew N0 R kd i o)
    (hend : ∀ a' w', Below N0 w.drew w' → (∀ (j : Nat) (oj : Oper), l[j]? = some oj → (∀ i, j ∉ kl.getD i []) → R j (dval a' oj) w') → (∀ t, (∀ (j : Nat) (oj : Oper), l[j]? = some oj → oj.dst ≠ some t) → a'.tmps.getD t undef = a.tmps.getD t undef) → a'.tmps.size = a.tmps.size → a'.defers = a.defers → Q .normal a' w') :
    (Code.region id l.toArray true).wp P Q a w := by
  refine wp_region_any hm ?_
  have hcn : ∀ n m, cntK (Array.replicate m false) n ≤ n := by
    intro n m
    induction n with
    | zero => exact Nat.le_refl _
    | succ n ih => show cntK _ n + _ ≤ n + 1; split <;> omega
  have := rel_any (P := P) (Q := Q) (relB_spec hB) hst1 hst2 hds (show N0 ≤ w.drew.heap.size from hN) hop hend l.length (Array.replicate l.length false) a w.drew
    ⟨by simp, fun j oj hj hl => by simp [Array.getD_eq_getD_getElem?, Array.getElem?_replicate] at hl; split at hl <;> simp at hl, Below.refl _ _, fun _ => Below.refl _ _, fun j oj hj hl => by simp [Array.getD_eq_getD_getElem?, Array.getElem?_replicate] at hl; split at hl <;> simp at hl, fun _ _ => rfl, rfl, rfl⟩ (hcn _ _)
  simpa using this
theorem rel_start {Φ : Nat → Oper → Prop} {l : List Oper} (h : ∀ i o', l[i]? = some o' → Φ (0 + i) o') : ∀ i o', l[i]? = some o' → Φ i o' := fun i o' hi => by have := h i o' hi; rwa [Nat.zero_add] at this
theorem rel_cons {Φ : Nat → Oper → Prop} {o : Oper} {r : List Oper} {k : Nat} (h : Φ k o) (hl : ∀ i o', r[i]? = some o' → Φ (k + 1 + i) o') : ∀ i o', (o :: r)[i]? = some o' → Φ (k + i) o' := by
  intro i o' hi
  cases i with
  | zero => simp at hi; rw [← hi]; exact h
  | succ i => rw [show k + (i + 1) = k + 1 + i by omega]; exact hl i o' (by simpa using hi)
theorem rel_nil {Φ : Nat → Oper → Prop} {k : Nat} : ∀ i o', ([] : List Oper)[i]? = some o' → Φ (k + i) o' := by intro i o' h; simp at h
end

/-! For the use. -/
def PureV (x : Value) : Value → World → Prop := fun v _ => v = x
def NewB (len : Nat) (cs : Array Value) (t : TypeId) : Value → World → Prop := fun v w => ∃ B, v = .slice (some ⟨B, 0, none⟩) len len ∧ w.heap[B]? = some (.cells cs t (0, 0))
def AnyV : Value → World → Prop := fun _ _ => True
def St1 (φ : Value → World → Prop) : Prop := ∀ v w1 w2, φ v w1 → Below w1.heap.size w1 w2 → φ v w2
def St2 (N0 : Nat) (w0 : World) (φ : Value → World → Prop) : Prop := ∀ v w1 w2, φ v w1 → Below N0 w0 w1 → Below N0 w1 w2 → φ v w2
theorem PureV.st1 (x : Value) : St1 (PureV x) := fun _ _ _ h _ => h
theorem PureV.st2 (x : Value) (N0 : Nat) (w0 : World) : St2 N0 w0 (PureV x) := fun _ _ _ h _ _ => h
theorem AnyV.st1 : St1 AnyV := fun _ _ _ h _ => h
theorem AnyV.st2 (N0 : Nat) (w0 : World) : St2 N0 w0 AnyV := fun _ _ _ h _ _ => h
theorem NewB.st1 (len : Nat) (cs : Array Value) (t : TypeId) : St1 (NewB len cs t) := fun v w1 w2 ⟨B, h1, h2⟩ hB => ⟨B, h1, by
  have hlt : B < w1.heap.size := by
    rcases Nat.lt_or_ge B w1.heap.size with h | h
    · exact h
    · rw [Array.getElem?_eq_none h] at h2; cases h2
  rw [hB.block B hlt, h2]⟩
/-- The yields, one behind the other. -/
def RL (Rs : List (Value → World → Prop)) (j : Nat) : Value → World → Prop := Rs.getD j AnyV
theorem RL.st1 {Rs : List (Value → World → Prop)} (h : ∀ φ ∈ Rs, St1 φ) : ∀ j v w1 w2, RL Rs j v w1 → Below w1.heap.size w1 w2 → RL Rs j v w2 := by
  intro j v w1 w2 h1 hB
  unfold RL at h1 ⊢
  rcases Nat.lt_or_ge j Rs.length with hj | hj
  · have e : Rs.getD j AnyV = Rs[j] := by simp [List.getD, hj]
    rw [e] at h1 ⊢
    exact h _ (List.getElem_mem hj) v w1 w2 h1 hB
  · have e : Rs.getD j AnyV = AnyV := by simp [List.getD, List.getElem?_eq_none hj]
    rw [e]; trivial
theorem RL.st2 {N0 : Nat} {w0 : World} : ∀ {Rs : List (Value → World → Prop)} {s : List Nat}, (∀ j, j < Rs.length → s.getD j 1 = 2 → St2 N0 w0 (Rs.getD j AnyV)) → ∀ j v w1 w2, s.getD j 1 = 2 → RL Rs j v w1 → Below N0 w0 w1 → Below N0 w1 w2 → RL Rs j v w2 := by
  intro Rs s h j v w1 w2 hs h1 hB1 hB2
  unfold RL at h1 ⊢
  rcases Nat.lt_or_ge j Rs.length with hj | hj
  · exact h j hj hs v w1 w2 h1 hB1 hB2
  · have e : Rs.getD j AnyV = AnyV := by simp [List.getD, List.getElem?_eq_none hj]
    rw [e]; trivial
theorem st1_nil : ∀ φ ∈ ([] : List (Value → World → Prop)), St1 φ := by intro φ h; cases h
theorem st1_cons {φ : Value → World → Prop} {r : List (Value → World → Prop)} (h : St1 φ) (hr : ∀ φ ∈ r, St1 φ) : ∀ ψ ∈ φ :: r, St1 ψ := by
  intro ψ hψ
  rcases List.mem_cons.1 hψ with rfl | hψ
  · exact h
  · exact hr ψ hψ
def St2L (N0 : Nat) (w0 : World) (Rs : List (Value → World → Prop)) (s : List Nat) : Prop := ∀ j, j < Rs.length → s.getD j 1 = 2 → St2 N0 w0 (Rs.getD j AnyV)
theorem st2_nil {N0 : Nat} {w0 : World} {s : List Nat} : St2L N0 w0 [] s := by intro j h; simp at h
theorem st2_cons {N0 : Nat} {w0 : World} {φ : Value → World → Prop} {r : List (Value → World → Prop)} {s : List Nat} (h : St2 N0 w0 φ) (hr : St2L N0 w0 r s) : St2L N0 w0 (φ :: r) (2 :: s) := by
  intro j hj hs
  cases j with
  | zero => exact h
  | succ j => exact hr j (by simpa using hj) (by simpa using hs)
theorem st2_skip {N0 : Nat} {w0 : World} {φ : Value → World → Prop} {r : List (Value → World → Prop)} {s : List Nat} (hr : St2L N0 w0 r s) : St2L N0 w0 (φ :: r) (1 :: s) := by
  intro j hj hs
  cases j with
  | zero => simp at hs
  | succ j => exact hr j (by simpa using hj) (by simpa using hs)
def noneedB (l : List Oper) (o : Oper) (t : Tmp) : Bool := (needs l.toArray o).all fun k => match l[k]? with | some x => x.dst != some t | none => true
theorem noneed {l : List Oper} {o : Oper} {t : Tmp} (h : noneedB l o t = true) : ∀ k ∈ needs l.toArray o, ∀ ok, l[k]? = some ok → ok.dst ≠ some t := by
  intro k hk ok hok
  unfold noneedB at h
  have := List.all_eq_true.1 h k hk
  rw [hok] at this
  simpa using this
theorem mem_needs {l : List Oper} {o : Oper} {k : Nat} (h : (needs l.toArray o).contains k = true) : k ∈ needs l.toArray o := by simpa using h
theorem mem_looks {l : List Oper} {o : Oper} {t : Tmp} (h : (o.looksAt l.toArray).contains t = true) : t ∈ o.looksAt l.toArray := by simpa using h
theorem out_move {P : Program} {o : Oper} {ρ : Operand → Value} {w : World} {φ : Value → World → Prop} {x : Operand} (h : o.op = .move x) (hφ : φ (ρ x) w) : Out P o ρ w φ := by
  unfold Out; rw [BigFrame.run_move x h]; exact hφ
theorem out_assign {P : Program} {o : Oper} {ρ : Operand → Value} {w : World} {φ : Value → World → Prop} {x : Operand} (h : o.op = .assign x) (hφ : φ (ρ x) w) : Out P o ρ w φ := by
  unfold Out; rw [BigFrame.run_assign x h]; exact hφ
theorem out_run {P : Program} {o : Oper} {ρ : Operand → Value} {w w' : World} {v : Value} {φ : Value → World → Prop} (h : (execOp ρ o).run P w = .ok (.value v) w') (hφ : φ v w') : Out P o ρ w φ := by
  unfold Out; rw [h]; exact hφ
theorem out_call {P : Program} {o : Oper} {ρ : Operand → Value} {w : World} {f : FuncId} {args : Array Value} {φ : Value → World → Prop} (h : (execOp ρ o).run P w = .ok (.enter f args) w) (hφ : Calls P f args w fun e w'' => ∃ v, e = .returned v ∧ φ v w'') : Out P o ρ w φ := by
  unfold Out; rw [h]; exact hφ
theorem get_bool {a : Act} {d : Tmp} {b : Bool} (h : a.tmps.getD d undef = .bool b) : a.tmps[d]? = some (.bool b) := by
  rw [Array.getD_eq_getD_getElem?] at h
  cases hh : a.tmps[d]? with
  | none => rw [hh] at h; cases h
  | some v => rw [hh] at h; simp at h; rw [h]
theorem hop_plain {o : Oper} {y : Nat → Option Bool} {A B : Prop} (hg : o.guard = none) (h : A) : if Region.wanted o y = true then A else B := by
  have : Region.wanted o y = true := by simp [Region.wanted, hg]
  rw [if_pos this]; exact h
theorem hop_guard {o : Oper} {y : Nat → Option Bool} {A B : Prop} {g : Nat} {b : Bool} (hg : o.guard = some (g, b)) (hy : y g = some b) (h : A) : if Region.wanted o y = true then A else B := by
  have : Region.wanted o y = true := by simp [Region.wanted, hg, hy]
  rw [if_pos this]; exact h
theorem fold_size (ys : Array Value) : ∀ (ds : List Nat) (xs : Array Value), (ds.foldl (fun zs d => zs.setIfInBounds d (ys.getD d undef)) xs).size = xs.size := by
  intro ds
  induction ds with
  | nil => intro xs; rfl
  | cons d r ih => intro xs; simp only [List.foldl_cons]; rw [ih]; simp
theorem fold_get (ys : Array Value) (t : Nat) (ht : t < ys.size) : ∀ (ds : List Nat) (xs : Array Value), ys.size = xs.size → (xs[t]? = ys[t]? ∨ t ∈ ds) → (ds.foldl (fun zs d => zs.setIfInBounds d (ys.getD d undef)) xs)[t]? = ys[t]? := by
  intro ds
  induction ds with
  | nil =>
    intro xs _ h
    rcases h with h | h
    · exact h
    · cases h
  | cons d r ih =>
    intro xs hs h
    simp only [List.foldl_cons]
    refine ih _ (by simpa using hs) ?_
    by_cases hd : d = t
    · subst hd
      left
      rw [Array.getElem?_setIfInBounds_self_of_lt (by omega)]
      rw [Array.getD_eq_getD_getElem?, Array.getElem?_eq_getElem ht]; rfl
    · rcases h with h | h
      · left; rw [Array.getElem?_setIfInBounds_ne hd]; exact h
      · rcases List.mem_cons.1 h with h | h
        · exact absurd h.symm hd
        · exact .inr h
/-- The frame behind a region. -/
theorem rel_frame {l : List Oper} {a0 fa : Act} (ds : List Nat) (hds : l.filterMap (·.dst) = ds) (hff : ∀ t, (∀ (j : Nat) (oj : Oper), l[j]? = some oj → oj.dst ≠ some t) → fa.tmps.getD t undef = a0.tmps.getD t undef)
    (hfs : fa.tmps.size = a0.tmps.size) (hfd : fa.defers = a0.defers) : fa = { tmps := ds.foldl (fun zs d => zs.setIfInBounds d (fa.tmps.getD d undef)) a0.tmps, defers := a0.defers } := by
  have e : fa.tmps = ds.foldl (fun zs d => zs.setIfInBounds d (fa.tmps.getD d undef)) a0.tmps := by
    apply Array.ext_getElem?
    intro t
    rcases Nat.lt_or_ge t fa.tmps.size with ht | ht
    · rw [fold_get fa.tmps t ht ds a0.tmps hfs]
      by_cases hm : t ∈ ds
      · exact .inr hm
      · left
        have := hff t (fun j oj hj hd => hm (by rw [← hds]; exact List.mem_filterMap.2 ⟨oj, List.mem_of_getElem? hj, hd⟩))
        rw [Array.getD_eq_getD_getElem?, Array.getD_eq_getD_getElem?, Array.getElem?_eq_getElem ht, Array.getElem?_eq_getElem (by omega)] at this
        rw [Array.getElem?_eq_getElem ht, Array.getElem?_eq_getElem (by omega)]
        simp at this ⊢; exact this.symm
    · rw [Array.getElem?_eq_none ht, Array.getElem?_eq_none (by rw [fold_size]; omega)]
  cases fa
  simp only at e hfd
  rw [← e, ← hfd]
theorem unkilled {kl : List (List Nat)} {j : Nat} (h : (kl.all fun x => !x.contains j) = true) : ∀ i, j ∉ kl.getD i [] := by
  intro i hi
  rcases Nat.lt_or_ge i kl.length with hlt | hge
  · have e : kl.getD i [] = kl[i] := by simp [List.getD, hlt]
    rw [e] at hi
    have := List.all_eq_true.1 h _ (List.getElem_mem hlt)
    simp at this
    exact this hi
  · have e : kl.getD i [] = [] := by simp [List.getD, List.getElem?_eq_none hge]
    rw [e] at hi; cases hi
end Go.Proofs.YtdhaanaenklleaaDoor.K3
namespace Go.Proofs.YtdhaanaenklleaaDoor
set_option linter.unusedVariables false
set_option linter.unusedSimpArgs false
open Go.ChangeShapes Go.WideShapes Go.ChangeAt Go.RowKit

/-- The result's cell. -/
structure ResC (w x : World) : Prop where
  at_ : ∃ cs, x.heap[w.heap.size]? = some (.cells cs 40 (0, 0)) ∧ cs.size = 34
  b : Below w.heap.size w x
theorem ResC.below {w x y : World} (h : ResC w x) (hB : Below x.heap.size x y) : ResC w y := by
  obtain ⟨cs, h1, h2⟩ := h.at_
  exact ⟨⟨cs, (hB.block _ (Array.getElem?_eq_some_iff.1 h1).1).trans h1, h2⟩, h.b.trans (hB.mono h.b.size)⟩
theorem ResC.made (w : World) (cs : Array Value) (h : cs.size = 34) : ResC w (w.alloc (.cells cs 40)) := ⟨⟨cs, heap_alloc_new _ _, h⟩, (Below.refl _ _).alloc (Nat.le_refl _) _⟩
theorem cm_one (root : List UInt8) (p : Option Addr) (n c : Nat) (note : ByteArray) : (cmL root (.slice p n c) note).toArray.all (·.oneCell') = true := one_row fun u hu => by
  unfold cmL at hu
  rcases List.mem_append.1 hu with hu | hu
  · simp only [bytV, List.mem_map] at hu
    obtain ⟨b, _, rfl⟩ := hu; rfl
  · simp only [List.mem_cons, List.not_mem_nil, or_false] at hu
    rcases hu with rfl | rfl <;> rfl
theorem cm_len34 {root : List UInt8} {pv : Value} {note : ByteArray} (h : root.length = 32) : (cmL root pv note).toArray.size = 34 := by
  unfold cmL; rw [List.size_toArray, List.length_append, bytV_len, h]; rfl
def CGetEnd (w : World) (r : Option Cm) (ok bad : Value) (e : Ending) (w' : World) : Prop :=
  Below w.heap.size w w' ∧ ∃ p n c, e = .returned (.tuple #[cmV (r.getD zeroC).1 (.slice p n c) (r.getD zeroC).2.2, if r.isSome = true then ok else bad]) ∧ n = (r.getD zeroC).2.1.length ∧ LAt 32 bytV w' (.slice p n c) (r.getD zeroC).2.1
theorem cget_none {w x : World} {r : Option Cm} {ok bad : Value} (h : r = none) (hB : Below w.heap.size w x) : CGetEnd w r ok bad (.returned (.tuple #[.agg (cmL zeroId (.slice none 0 0) ⟨#[]⟩).toArray, bad])) x := by
  subst h
  refine ⟨hB, none, 0, 0, rfl, rfl, ?_⟩
  exact ⟨(fun y hy => nomatch hy), Or.inl ⟨none, 0, rfl, rfl⟩⟩
theorem cget_some {w x : World} {r : Option Cm} {ok bad : Value} {root : List UInt8} {L : List (List UInt8)} {note : ByteArray} {p : Option Addr} {n c : Nat} (h : r = some (root, L, note)) (hB : Below w.heap.size w x) (hn : n = L.length) (hL : LAt 32 bytV x (.slice p n c) L) :
    CGetEnd w r ok bad (.returned (.tuple #[.agg (cmL root (.slice p n c) note).toArray, ok])) x := by
  subst h
  exact ⟨hB, p, n, c, rfl, hn, hL⟩
theorem id32_next {l : List ByteArray} {k : Nat} (h : k < l.length) (h32 : id32 (l.take k) = true) (hx : l[k].size = 32) : id32 (l.take (k + 1)) = true := by
  rw [List.take_succ_eq_append_getElem h]
  unfold id32 at *
  rw [List.all_append, h32]
  simp [hx]
theorem id32_bad {l : List ByteArray} {k : Nat} (h : k < l.length) (hx : ¬ l[k].size = 32) : id32 l = false := by
  cases hb : id32 l with
  | false => rfl
  | true => exact absurd (id32_mem hb _ (List.getElem_mem h)) hx
theorem dataL_next {l : List ByteArray} {k : Nat} (h : k < l.length) : dataL (l.take (k + 1)) = dataL (l.take k) ++ [l[k].data.toList] := by
  rw [List.take_succ_eq_append_getElem h]; unfold dataL; rw [List.map_append]; rfl
theorem getCP_bad {ps : List ByteArray} (h : id32 (ps.drop 1) = false) : getCP ps = none := by
  match ps, h with
  | [], _ => rfl
  | [x], _ => rfl
  | note :: root :: rest, h =>
    have h' : id32 (root :: rest) = false := h
    simp only [getCP]
    rw [if_neg (by rw [h', Bool.false_and]; decide)]
theorem getCP_few {ps : List ByteArray} (h : ps.length < 2) : getCP ps = none := by
  match ps, h with
  | [], _ => rfl
  | [x], _ => rfl
  | _ :: _ :: _, h => simp only [List.length_cons] at h; omega
structure MadeC (N0 : Nat) (R : Array Value) (v : Value) (w : World) : Prop where
  e : ∃ B, N0 ≤ B ∧ v = .pointer (some ⟨B, 0, none⟩) ∧ w.heap[B]? = some (.cells R 40 (0, 0))
theorem MadeC.st1 (N0 : Nat) (R : Array Value) : K3.St1 (MadeC N0 R) := fun v w1 w2 ⟨B, h0, h1, h2⟩ hB => ⟨B, h0, h1, (hB.block _ (Array.getElem?_eq_some_iff.1 h2).1).trans h2⟩
theorem out_store {o : Oper} {ρ : Operand → Value} {w : World} {φ : Value → World → Prop} {x y : Operand} {B : Nat} {R old : Array Value} (ho : o.op = .store 40 x y) (hx : ρ x = .pointer (some ⟨B, 0, none⟩)) (hy : ρ y = .agg R)
    (hg : w.heap[B]? = some (.cells old 40 (0, 0))) (hi : (Tryd.prog.info? 40).map (·.size) = some R.size) (hold : old.size = R.size) (h1 : R.all (·.oneCell') = true) (hφ : φ undef (w.setRow B R)) : K3.Out Tryd.prog o ρ w φ := by
  have hw := run_storeVar_row (P := Tryd.prog) w B 40 40 old R hg hi hold h1
  unfold K3.Out execOp
  simp only [ho, hx, hy, Instr.storeAt, Instr.sureAddr, Sem.run_bind, Sem.run_pure, Result.andThen_ok, hw]
  exact hφ
theorem fold_all (l : List Value) (z : Array Value) (h : l.length = z.size) : List.foldl (fun (cs : Array Value) (x : Value × Nat) => cs.setIfInBounds x.2 x.1) z l.zipIdx = l.toArray := by
  apply Array.ext_getElem?
  intro i
  have hf := foldl_get 0 l 0 z i
  simp only [Nat.zero_add, Nat.add_zero, Nat.sub_zero] at hf
  rw [hf]
  by_cases hi : i < l.length
  · rw [if_pos ⟨by omega, by omega, by omega⟩, List.getElem?_toArray]
  · rw [if_neg (by omega), Array.getElem?_eq_none (by omega), Array.getElem?_eq_none (by simp; omega)]
theorem LAt.far {X : Type} {n : Nat} {fl : X → List Value} {w : World} {p : Option Addr} {m c : Nat} {l : List X} (h : LAt n fl w (.slice p m c) l) (g : Nat) (cs : Array Value) (hne : ∀ b o, p = some ⟨b, o, none⟩ → b ≠ g) : LAt n fl (w.setRow g cs) (.slice p m c) l := by
  refine ⟨h.1, ?_⟩
  rcases h.2 with ⟨p', cap, e, h0⟩ | ⟨b, off, cap, e, hb, hcap, hmax, hcell⟩
  · exact .inl ⟨p', cap, e, h0⟩
  · refine .inr ⟨b, off, cap, e, by simp [World.setRow]; exact hb, hcap, hmax, fun j x hx => ?_⟩
    rw [← hcell j x hx]
    have hp := hne b off (by simp only [Value.slice.injEq] at e; exact e.1)
    have := setRow_other w g b cs hp
    simp only [World.cell?, this]
theorem ids_split {w : World} {u : Value} {r : List UInt8} {L : List (List UInt8)} (h : LAt 32 bytV w u (r :: L)) : ∃ b o n c pt ct, u = .slice (some ⟨b, o, none⟩) n c ∧ b < w.heap.size ∧ 0 < n ∧ n ≤ c ∧ c ≤ 9223372036854775807 ∧ w.rangeAt b o (bytV r) ∧
    (∀ w1, (Instr.slice 38 u (some (.int .i64 1)) none none).run Tryd.prog w1 = .ok (.slice pt L.length ct) w1) ∧ LAt 32 bytV w (.slice pt L.length ct) L ∧ (∀ b' o', pt = some ⟨b', o', none⟩ → b' = b) := by
  obtain ⟨vt, hrun, hvt⟩ := gen_drop eltI h 1 (by simp)
  have hvt' : LAt 32 bytV w vt L := hvt
  obtain ⟨hl, h2⟩ := h
  have hs : ∃ pt ct, vt = .slice pt L.length ct := by
    rcases hvt'.2 with ⟨p, cap, rfl, h0⟩ | ⟨b, off, cap, rfl, _⟩
    · exact ⟨p, cap, by rw [h0]; rfl⟩
    · exact ⟨_, _, rfl⟩
  obtain ⟨pt, ct, rfl⟩ := hs
  rcases h2 with ⟨p, cap, _, h0⟩ | ⟨b, off, cap, rfl, hb, hcap, hmax, hcell⟩
  · cases h0
  · refine ⟨b, off, _, cap, pt, ct, rfl, hb, by simp, hcap, by unfold maxLen at hmax; omega, fun j y hy => hcell j y ?_, hrun, hvt', fun b' o' e => ?_⟩
    rotate_left
    · have hz : (sizeOf 37).run Tryd.prog w = .ok 32 w := by
        obtain ⟨i0, z, hi, hz0, hz1, _⟩ := eltI.inf
        simp [sizeOf, typeInfo, hi, hz1]
      have h1 := hrun w
      rw [run_slice_l w 38 _ _ _ (by rw [eltI.el]; exact eltI.tu) .i64 (1 : Nat) (by omega) (by simp only [List.length_cons]; omega), eltI.el, hz] at h1
      simp only [Result.andThen_ok, sliced, Int.toNat_natCast, Option.map_some, gen_add_off] at h1
      simp only [Result.ok.injEq, Value.slice.injEq, and_true] at h1
      have h2 := h1.1
      rw [e] at h2
      split at h2 <;> (simp only [Option.some.injEq, Addr.mk.injEq] at h2; exact h2.1.symm)
    show (bytV r ++ LF bytV L)[j]? = some y
    rw [List.getElem?_append_left (List.getElem?_eq_some_iff.1 hy).1]; exact hy
theorem out_load3 {P : Program} {o : Oper} {ρ : Operand → Value} {w : World} {φ : Value → World → Prop} {ty : TypeId} {x : Operand} {p : Addr} {v : Value} (ho : o.op = .load ty x) (hx : ρ x = .pointer (some p)) (hr : (loadVar ty p).run P w = .ok v w) (hφ : φ v w) : K3.Out P o ρ w φ := by
  refine K3.out_run (v := v) (w' := w) ?_ hφ
  unfold execOp
  simp only [ho, hx, Instr.loadAt, Instr.sureAddr, Sem.run_bind, Sem.run_pure, Result.andThen_ok, hr]
theorem out_build3 {P : Program} {o : Oper} {ρ : Operand → Value} {w : World} {φ : Value → World → Prop} {ty : TypeId} {parts : Array (Nat × Operand)} {ps : Array (Nat × Value)} {v : Value} (ho : o.op = .build ty parts) (hx : (parts.map fun (i, x) => (i, ρ x)) = ps) (hr : (Instr.build ty ps).run P w = .ok v w) (hφ : φ v w) : K3.Out P o ρ w φ := by
  refine K3.out_run (v := v) (w' := w) ?_ hφ
  unfold execOp
  simp only [ho, hx, Sem.run_bind, Sem.run_pure, Result.andThen_ok, hr]
theorem len_of_getCP {ps : List ByteArray} (h : 2 ≤ ps.length) : ∃ note root rest, ps = note :: root :: rest := by
  match ps, h with
  | note :: root :: rest, _ => exact ⟨note, root, rest, rfl⟩

set_option maxRecDepth 100000 in
set_option maxHeartbeats 8000000 in
theorem getCommit_any (s : ByteArray) (w : World) (hs : s.size ≤ 1048576) : Calls Tryd.prog 27 #[.string s] w (CGetEnd w (getC s) (.int .i64 0) (.int .i64 4)) := by
  obtain ⟨i0, z0, hi, hz0, hz1, hz2, hzs⟩ := eltI.inf
  have HSp : Hid (∀ w1, _) := Lib.hid (fun w1 => S.split_any s w1 hs)
  have HZi := Lib.hid (show (Tryd.prog.info? 40).map (·.size) = some (#[.int .u8 0, .int .u8 0, .int .u8 0, .int .u8 0, .int .u8 0, .int .u8 0, .int .u8 0, .int .u8 0, .int .u8 0, .int .u8 0, .int .u8 0, .int .u8 0, .int .u8 0, .int .u8 0, .int .u8 0, .int .u8 0, .int .u8 0, .int .u8 0, .int .u8 0, .int .u8 0, .int .u8 0, .int .u8 0, .int .u8 0, .int .u8 0, .int .u8 0, .int .u8 0, .int .u8 0, .int .u8 0, .int .u8 0, .int .u8 0, .int .u8 0, .int .u8 0, .slice none 0 0, .string ⟨#[]⟩] : Array Value).size by kernel_rfl)
  have HZo := Lib.hid (show (#[.int .u8 0, .int .u8 0, .int .u8 0, .int .u8 0, .int .u8 0, .int .u8 0, .int .u8 0, .int .u8 0, .int .u8 0, .int .u8 0, .int .u8 0, .int .u8 0, .int .u8 0, .int .u8 0, .int .u8 0, .int .u8 0, .int .u8 0, .int .u8 0, .int .u8 0, .int .u8 0, .int .u8 0, .int .u8 0, .int .u8 0, .int .u8 0, .int .u8 0, .int .u8 0, .int .u8 0, .int .u8 0, .int .u8 0, .int .u8 0, .int .u8 0, .int .u8 0, .slice none 0 0, .string ⟨#[]⟩] : Array Value).all (·.oneCell') = true by rw [show (#[.int .u8 0, .int .u8 0, .int .u8 0, .int .u8 0, .int .u8 0, .int .u8 0, .int .u8 0, .int .u8 0, .int .u8 0, .int .u8 0, .int .u8 0, .int .u8 0, .int .u8 0, .int .u8 0, .int .u8 0, .int .u8 0, .int .u8 0, .int .u8 0, .int .u8 0, .int .u8 0, .int .u8 0, .int .u8 0, .int .u8 0, .int .u8 0, .int .u8 0, .int .u8 0, .int .u8 0, .int .u8 0, .int .u8 0, .int .u8 0, .int .u8 0, .int .u8 0, .slice none 0 0, .string ⟨#[]⟩] : Array Value) = (cmL zeroId (.slice none 0 0) ⟨#[]⟩).toArray from rfl]; exact cm_one _ _ _ _ _)
  cases hsp : S.splitB s with
  | none =>
    have Hfin := Lib.hid (show getC s = none by unfold getC; rw [hsp])
    rw [hsp] at HSp
    clear hsp
    go_enter Tryd.func27, Tryd.ntmps27
    go_wp2_with fail
    refine (HSp.out _).mono ?_
    rintro e w1 ⟨hB1, rfl⟩
    have HC := Lib.hid ((ResC.made w _ rfl).below hB1)
    clear hB1
    obtain ⟨cs, hcs, hcz⟩ := HC.out.at_
    go_wp2_with (first | (refine wpList_store_rowTo rfl 40 (.tmp 2) (.tmp 24) rfl rfl w.heap.size #[.int .u8 0, .int .u8 0, .int .u8 0, .int .u8 0, .int .u8 0, .int .u8 0, .int .u8 0, .int .u8 0, .int .u8 0, .int .u8 0, .int .u8 0, .int .u8 0, .int .u8 0, .int .u8 0, .int .u8 0, .int .u8 0, .int .u8 0, .int .u8 0, .int .u8 0, .int .u8 0, .int .u8 0, .int .u8 0, .int .u8 0, .int .u8 0, .int .u8 0, .int .u8 0, .int .u8 0, .int .u8 0, .int .u8 0, .int .u8 0, .int .u8 0, .int .u8 0, .slice none 0 0, .string ⟨#[]⟩] rfl rfl 40 cs hcs HZi.out hcz HZo.out ?_))
    refine bodyPost_ret (v := .tuple #[.agg #[.int .u8 0, .int .u8 0, .int .u8 0, .int .u8 0, .int .u8 0, .int .u8 0, .int .u8 0, .int .u8 0, .int .u8 0, .int .u8 0, .int .u8 0, .int .u8 0, .int .u8 0, .int .u8 0, .int .u8 0, .int .u8 0, .int .u8 0, .int .u8 0, .int .u8 0, .int .u8 0, .int .u8 0, .int .u8 0, .int .u8 0, .int .u8 0, .int .u8 0, .int .u8 0, .int .u8 0, .int .u8 0, .int .u8 0, .int .u8 0, .int .u8 0, .int .u8 0, .slice none 0 0, .string ⟨#[]⟩], .int .i64 4]) (results_cell_tmp (fr := (0, 0)) rfl _ _ w.heap.size 40 _ _ _ rfl rfl (setRow_heap _ _ _ #[.int .u8 0, .int .u8 0, .int .u8 0, .int .u8 0, .int .u8 0, .int .u8 0, .int .u8 0, .int .u8 0, .int .u8 0, .int .u8 0, .int .u8 0, .int .u8 0, .int .u8 0, .int .u8 0, .int .u8 0, .int .u8 0, .int .u8 0, .int .u8 0, .int .u8 0, .int .u8 0, .int .u8 0, .int .u8 0, .int .u8 0, .int .u8 0, .int .u8 0, .int .u8 0, .int .u8 0, .int .u8 0, .int .u8 0, .int .u8 0, .int .u8 0, .int .u8 0, .slice none 0 0, .string ⟨#[]⟩] 40 (0, 0) hcs) Tryd.underlying40 rfl HZi.out) rfl ?_
    exact cget_none Hfin.out (below_setRow HC.out.b (Nat.le_refl _) _)
  | some ps =>
    rw [hsp] at HSp
    obtain ⟨hps, hpl⟩ := split_sizes hsp
    have Hps := Lib.hid hps
    have HgetC := Lib.hid (getC_of hsp)
    clear hps hsp
    by_cases h2 : ps.length < 2
    · have Hfin := Lib.hid (show getC s = none by rw [HgetC.out]; exact getCP_few h2)
      obtain ⟨ln, hln⟩ : ∃ ln, ln = ps.length := ⟨_, rfl⟩
      rw [← hln] at h2
      have Hln := Lib.hid hln
      have h2I : (ln : Int) < 2 := by omega
      clear hpl hln
      go_enter Tryd.func27, Tryd.ntmps27
      go_wp2_with fail
      refine (HSp.out _).mono ?_
      rintro e w1 ⟨hB1, v1, rfl, hv1⟩
      obtain ⟨pp, pc, rfl, -⟩ := strs_at Hln.out hv1
      have HC := Lib.hid ((ResC.made w _ rfl).below hB1)
      clear hB1 hv1
      obtain ⟨cs, hcs, hcz⟩ := HC.out.at_
      go_wp2_with (first | (refine wpList_store_rowTo rfl 40 (.tmp 2) (.tmp 24) rfl rfl w.heap.size #[.int .u8 0, .int .u8 0, .int .u8 0, .int .u8 0, .int .u8 0, .int .u8 0, .int .u8 0, .int .u8 0, .int .u8 0, .int .u8 0, .int .u8 0, .int .u8 0, .int .u8 0, .int .u8 0, .int .u8 0, .int .u8 0, .int .u8 0, .int .u8 0, .int .u8 0, .int .u8 0, .int .u8 0, .int .u8 0, .int .u8 0, .int .u8 0, .int .u8 0, .int .u8 0, .int .u8 0, .int .u8 0, .int .u8 0, .int .u8 0, .int .u8 0, .int .u8 0, .slice none 0 0, .string ⟨#[]⟩] rfl rfl 40 cs hcs HZi.out hcz HZo.out ?_))
      refine bodyPost_ret (v := .tuple #[.agg #[.int .u8 0, .int .u8 0, .int .u8 0, .int .u8 0, .int .u8 0, .int .u8 0, .int .u8 0, .int .u8 0, .int .u8 0, .int .u8 0, .int .u8 0, .int .u8 0, .int .u8 0, .int .u8 0, .int .u8 0, .int .u8 0, .int .u8 0, .int .u8 0, .int .u8 0, .int .u8 0, .int .u8 0, .int .u8 0, .int .u8 0, .int .u8 0, .int .u8 0, .int .u8 0, .int .u8 0, .int .u8 0, .int .u8 0, .int .u8 0, .int .u8 0, .int .u8 0, .slice none 0 0, .string ⟨#[]⟩], .int .i64 4]) (results_cell_tmp (fr := (0, 0)) rfl _ _ w.heap.size 40 _ _ _ rfl rfl (setRow_heap _ _ _ #[.int .u8 0, .int .u8 0, .int .u8 0, .int .u8 0, .int .u8 0, .int .u8 0, .int .u8 0, .int .u8 0, .int .u8 0, .int .u8 0, .int .u8 0, .int .u8 0, .int .u8 0, .int .u8 0, .int .u8 0, .int .u8 0, .int .u8 0, .int .u8 0, .int .u8 0, .int .u8 0, .int .u8 0, .int .u8 0, .int .u8 0, .int .u8 0, .int .u8 0, .int .u8 0, .int .u8 0, .int .u8 0, .int .u8 0, .int .u8 0, .int .u8 0, .int .u8 0, .slice none 0 0, .string ⟨#[]⟩] 40 (0, 0) hcs) Tryd.underlying40 rfl HZi.out) rfl ?_
      exact cget_none Hfin.out (below_setRow HC.out.b (Nat.le_refl _) _)
    · obtain ⟨n, hn⟩ : ∃ n, n + 1 = ps.length := ⟨ps.length - 1, by omega⟩
      have Hn := Lib.hid hn
      have hn1 : 1 ≤ n := by omega
      have hn2 : n ≤ 131072 := by omega
      have h2I : ¬ ((n : Int) + 1) < 2 := by omega
      clear hpl hn h2
      go_enter Tryd.func27, Tryd.ntmps27
      go_wp2_with fail
      refine (HSp.out _).mono ?_
      rintro e w1 ⟨hB1, v1, rfl, hv1⟩
      obtain ⟨pp, pc, rfl, hp⟩ := strs_at Hn.out hv1
      have HC1 := Lib.hid ((ResC.made w _ rfl).below hB1)
      obtain ⟨g1, o1, rfl, hg1, hcap1, hmax1, hcell1⟩ := hp (by omega)
      have Hcell := Lib.hid hcell1
      clear hp hv1 hB1 hcell1
      go_wp2_with (at_make; refine wpList_make_own _ rfl _ _ 38 rfl w1.heap.size 37 i0 z0 32 Tryd.underlying38 hi hz0 hz1 .i64 .i64 _ n rfl rfl rfl (by rw [hz2]; omega) (by unfold maxLen; omega) (Nat.le_refl _) ?_; intro w3 hown3 hgrow3; have HL3 := Lib.hid (show LoG 37 32 bytV w1 [] _ w3 from ⟨hown3, (Below.refl _ _).grown hgrow3 (Nat.le_refl _) (fun k h => by cases h)⟩); clear hown3 hgrow3)
      clear hi hz0 hz1 hz2 hzs i0 z0
      go_loopg [6, 32] n (fun g vo iv wr => ∃ q : Nat, q + g = n ∧ iv = .int .i64 q ∧ id32 ((ps.drop 1).take q) = true ∧ LoG 37 32 bytV w1 (dataL ((ps.drop 1).take q)) vo wr)
      case atStart => exact ⟨0, by omega, rfl, by rw [List.take_zero]; rfl, by rw [List.take_zero]; exact HL3.out⟩
      case round =>
        obtain ⟨q, hqg, rfl, h32, hLo⟩ := hrel
        have HLo := Lib.hid hLo
        have H32 := Lib.hid h32
        have HC := Lib.hid (HC1.out.below hLo.bl)
        clear hLo h32 HL3
        have hdl : (ps.drop 1).length = n := by rw [List.length_drop, ← Hn.out]; omega
        by_cases hlt : q < n
        · have hltI : (q : Int) < (n : Int) := by omega
          have hq : q < (ps.drop 1).length := by omega
          have hxe : (ps.drop 1)[q] = ps[q + 1]'(by have := Hn.out; omega) := by rw [List.getElem_drop]; congr 1; omega
          have Hll := Lib.hid (show (dataL ((ps.drop 1).take q)).length = q by unfold dataL; rw [List.length_map, List.length_take]; omega)
          have hc0 : w1.cell? ⟨g1, o1 + 1 + q, none⟩ = some (.string (ps.drop 1)[q]) := by
            rw [hxe, ← Hcell.out (q + 1) (by have := Hn.out; omega)]
            congr 2; omega
          have hcw := (HLo.out.bl.cell (p := ⟨g1, o1 + 1 + q, none⟩) hg1).trans hc0
          have hxs : (ps.drop 1)[q].size ≤ 1048576 := by rw [hxe]; exact Nat.le_trans (Hps.out _ (List.getElem_mem _)) hs
          have Hnx := Lib.hid (fun h : (ps.drop 1)[q].size = 32 => id32_next hq H32.out h)
          have Hdx := Lib.hid (dataL_next hq)
          have Hbad := Lib.hid (fun h : ¬ (ps.drop 1)[q].size = 32 => getCP_bad (ps := ps) (id32_bad hq h))
          obtain ⟨x, hx⟩ : ∃ x, x = (ps.drop 1)[q] := ⟨_, rfl⟩
          rw [← hx] at hcw hxs Hnx Hdx Hbad
          clear hx hxe hc0 hdl hq
          generalize dataL ((ps.drop 1).take q) = ss at *
          have Hz := Lib.hid (fun (l : List UInt8) (h : l.length = 32) => id_size h)
          have Hone := Lib.hid id_one
          have Hs32 := Lib.hid (fun (l : List UInt8) (h : l.length = 32) => (by rw [List.size_toArray, bytV_len, h] : (bytV l).toArray.size = 32))
          have Hbx := Lib.hid (fun (x : World) old (l : List UInt8) => boxL_made x old 37 (bytV l))
          by_cases hx32 : x.size = 32
          · have Hdl := Lib.hid (show x.data.toList.length = 32 by rw [← Lib.size_eq, hx32])
            have HRy := Lib.hid (fun w2 => readId_yes x w2 hx32)
            have Hn2 := Lib.hid (Hnx.out hx32)
            clear hx32
            go_wp2_with fail
            refine (HRy.out _).mono ?_
            rintro e w2 ⟨rfl, hB2⟩
            have HLo2 := Lib.hid (HLo.out.below hB2)
            have hbl : (bytV x.data.toList).length = 32 := by rw [bytV_len]; exact Hdl.out
            clear hB2 hcw
            go_wp2_with (first | (refine wpList_store_rowTo rfl 37 (.tmp 9) (.tmp 39) rfl rfl w2.heap.size (bytV x.data.toList).toArray rfl rfl 37 _ (heap_alloc_new w2 _) (Hz.out _ Hdl.out) (by rw [Hs32.out _ Hdl.out]; rfl) (Hone.out _) ?_; refine box_absL (Hbx.out w2 _ x.data.toList) ?_; intro w4 hbx; have HBx := Lib.hid hbx; have HLo4 := Lib.hid (HLo2.out.below hbx.b);  clear hbx) | (refine wpList_load_mid rfl 37 (.tmp 9) rfl w2.heap.size 0 rfl (bytV x.data.toList) _ (fun j y hj => by rw [Nat.zero_add]; exact HBx.out.r j y hj) Tryd.underlying37 rfl (by rw [bytV_len, Hdl.out]; kernel_rfl) ?_) | (at_builtin; go_must (refine wpList_append_gen eltI rfl (.tmp 44) (.tmp 46) rfl rfl w1.heap.size _ ss rfl (HLo4.out.below ((Below.refl _ _).alloc (Nat.le_refl _) _)).ow _ [x.data.toList] (LAt.block (by rw [bytV_len]; exact Hdl.out) (fold_all (bytV x.data.toList) #[.int .u8 0, .int .u8 0, .int .u8 0, .int .u8 0, .int .u8 0, .int .u8 0, .int .u8 0, .int .u8 0, .int .u8 0, .int .u8 0, .int .u8 0, .int .u8 0, .int .u8 0, .int .u8 0, .int .u8 0, .int .u8 0, .int .u8 0, .int .u8 0, .int .u8 0, .int .u8 0, .int .u8 0, .int .u8 0, .int .u8 0, .int .u8 0, .int .u8 0, .int .u8 0, .int .u8 0, .int .u8 0, .int .u8 0, .int .u8 0, .int .u8 0, .int .u8 0] (by rw [bytV_len, Hdl.out]; rfl)) (heap_alloc_new w4 _)) rfl (by have := Hll.out; simp only [List.length_cons, List.length_nil]; omega) (by unfold maxLen; have := Hll.out; simp only [List.length_cons, List.length_nil]; omega) (by have := HLo4.out.bl.size; simp; omega) ?_); intro v5 w5 ho5 hg5; have HLo5 := Lib.hid ((HLo4.out.below ((Below.refl _ _).alloc (Nat.le_refl _) _)).put ho5 hg5); clear ho5 hg5))
            go_roundg (gk - 1)
            case measure => omega
            case rel => exact ⟨q + 1, by omega, by go_num, Hn2.out, by rw [Hdx.out]; exact HLo5.out⟩
          · have HRy := Lib.hid (fun w2 => readId_no x w2 hx32)
            have Hfin := Lib.hid (show getC s = none by rw [HgetC.out]; exact Hbad.out hx32)
            have Hdl := Lib.hid (show zeroId.length = 32 by decide)
            go_wp2_with fail
            refine (HRy.out _).mono ?_
            rintro e w2 ⟨rfl, hB2⟩
            have HLo2 := Lib.hid (HLo.out.below hB2)
            have HC2 := Lib.hid (HC.out.below hB2)
            clear hB2 hcw
            go_wp2_with (first | (refine wpList_store_rowTo rfl 37 (.tmp 9) (.tmp 39) rfl rfl w2.heap.size (bytV zeroId).toArray rfl rfl 37 _ (heap_alloc_new w2 _) (Hz.out _ Hdl.out) (by rw [Hs32.out _ Hdl.out]; rfl) (Hone.out _) ?_; refine box_absL (Hbx.out w2 _ zeroId) ?_; intro w4 hbx; have HBx := Lib.hid hbx; have HLo4 := Lib.hid (HLo2.out.below hbx.b); obtain ⟨cs, hcs, hcz⟩ := (HC2.out.below hbx.b).at_; have HB4 := Lib.hid (HC2.out.below hbx.b).b; clear hbx) | (refine wpList_store_rowTo rfl 40 (.tmp 2) (.tmp 43) rfl rfl w.heap.size #[.int .u8 0, .int .u8 0, .int .u8 0, .int .u8 0, .int .u8 0, .int .u8 0, .int .u8 0, .int .u8 0, .int .u8 0, .int .u8 0, .int .u8 0, .int .u8 0, .int .u8 0, .int .u8 0, .int .u8 0, .int .u8 0, .int .u8 0, .int .u8 0, .int .u8 0, .int .u8 0, .int .u8 0, .int .u8 0, .int .u8 0, .int .u8 0, .int .u8 0, .int .u8 0, .int .u8 0, .int .u8 0, .int .u8 0, .int .u8 0, .int .u8 0, .int .u8 0, .slice none 0 0, .string ⟨#[]⟩] rfl rfl 40 cs hcs HZi.out hcz HZo.out ?_))
            refine bodyPost_ret (v := .tuple #[.agg #[.int .u8 0, .int .u8 0, .int .u8 0, .int .u8 0, .int .u8 0, .int .u8 0, .int .u8 0, .int .u8 0, .int .u8 0, .int .u8 0, .int .u8 0, .int .u8 0, .int .u8 0, .int .u8 0, .int .u8 0, .int .u8 0, .int .u8 0, .int .u8 0, .int .u8 0, .int .u8 0, .int .u8 0, .int .u8 0, .int .u8 0, .int .u8 0, .int .u8 0, .int .u8 0, .int .u8 0, .int .u8 0, .int .u8 0, .int .u8 0, .int .u8 0, .int .u8 0, .slice none 0 0, .string ⟨#[]⟩], .int .i64 4]) (results_cell_tmp (fr := (0, 0)) rfl _ _ w.heap.size 40 _ _ _ rfl rfl (setRow_heap _ _ _ #[.int .u8 0, .int .u8 0, .int .u8 0, .int .u8 0, .int .u8 0, .int .u8 0, .int .u8 0, .int .u8 0, .int .u8 0, .int .u8 0, .int .u8 0, .int .u8 0, .int .u8 0, .int .u8 0, .int .u8 0, .int .u8 0, .int .u8 0, .int .u8 0, .int .u8 0, .int .u8 0, .int .u8 0, .int .u8 0, .int .u8 0, .int .u8 0, .int .u8 0, .int .u8 0, .int .u8 0, .int .u8 0, .int .u8 0, .int .u8 0, .int .u8 0, .int .u8 0, .slice none 0 0, .string ⟨#[]⟩] 40 (0, 0) hcs) Tryd.underlying40 rfl HZi.out) rfl ?_
            exact cget_none Hfin.out (below_setRow HB4.out (Nat.le_refl _) _)
        · obtain rfl : q = n := by omega
          have hltI : ¬ (q : Int) < (q : Int) := by omega
          rw [List.take_of_length_le (by omega)] at H32 HLo
          obtain ⟨note, root, rest, rfl⟩ := len_of_getCP (ps := ps) (by have := Hn.out; omega)
          have hi32 : id32 (root :: rest) = true := H32.out
          have hla : LAt 32 bytV wr u6 (root.data.toList :: dataL rest) := LAt.own (fun y hy => by rw [bytV_len]; exact id32_len hi32 y hy) HLo.out.ow
          obtain ⟨b, o, n6, c6, pt, ct, rfl, hb6, hn6, hc6, hm6, hrg, hsl, hvt, hfar⟩ := ids_split hla
          have Hfar := Lib.hid (show ∀ b' o', pt = some ⟨b', o', none⟩ → b' ≠ w.heap.size from fun b' o' e => by
            rw [hfar b' o' e]
            have h1 := (HLo.out.ow.lt b rfl).1
            obtain ⟨cs, hcs, _⟩ := HC1.out.at_
            have := (Array.getElem?_eq_some_iff.1 hcs).1
            omega)
          clear hfar
          have hr0 : root.data.toList.length = 32 := id32_len hi32 _ List.mem_cons_self
          have hc0 := (HLo.out.bl.cell (p := ⟨g1, o1, none⟩) hg1).trans (Hcell.out 0 (by simp))
          have hns : note.size ≤ 1048576 := Nat.le_trans (Hps.out _ List.mem_cons_self) hs
          have hgetC : getC s = if goodC (dataL rest) note = true then some (root.data.toList, dataL rest, note) else none := by rw [HgetC.out]; simp only [getCP, hi32, Bool.true_and]
          have HgC := Lib.hid hgetC
          have hgood := fun w1 => goodCommit_any root.data.toList note pt (dataL rest).length ct w1 hr0
          have hgd : (decide (note.size ≤ 64) && decide ((dataL rest).length ≤ 2)) = goodC (dataL rest) note := rfl
          rw [hgd] at hgood
          unfold cmV at hgood
          have hbu := fun w1 => build_cm w1 root.data.toList pt (dataL rest).length ct note hr0
          unfold cmV at hbu
          obtain ⟨R, hR⟩ : ∃ R, R = (cmL root.data.toList (.slice pt (dataL rest).length ct) note).toArray := ⟨_, rfl⟩
          have HRi := Lib.hid (show (Tryd.prog.info? 40).map (·.size) = some R.size by rw [hR]; exact cm_size hr0)
          have HRo := Lib.hid (show R.all (·.oneCell') = true by rw [hR]; exact cm_one _ _ _ _ _)
          have HRs := Lib.hid (show R.size = 34 by rw [hR]; exact cm_len34 hr0)
          rw [← hR] at hgood hbu
          have HR := Lib.hid hR
          have Hgood := Lib.hid hgood
          have Hbu := Lib.hid hbu
          have Hsl := Lib.hid hsl
          have Hvt := Lib.hid hvt
          have Hrg := Lib.hid hrg
          have Hr0 := Lib.hid hr0
          obtain ⟨lr, hlr⟩ : ∃ lr, lr = (dataL rest).length := ⟨_, rfl⟩
          rw [← hlr] at Hvt HR Hbu Hsl
          have Hlr := Lib.hid hlr
          have hn6I : (0 : Int) < (n6 : Int) := by omega
          have HLow := Lib.hid HLo.out.bl
          clear hgood hbu hR hgd hgetC hla hi32 hrg hsl hvt hr0 H32 HLo Hcell
          generalize hRR : dataL rest = L at *
          generalize hr0e : root.data.toList = r0 at *
          clear hRR hr0e hlr
          go_wp2_with fail
          have hd4 : Below wr.heap.size wr wr.drew := (Below.refl _ _).drew
          have hRL : ∃ Rs : List (Value → World → Prop), Rs = [K3.PureV (.slice (some ⟨b, o, none⟩) n6 c6),
              K3.PureV (.pointer (some ⟨b, o, none⟩)),
              K3.PureV (.agg (bytV r0).toArray),
              K3.PureV (.slice (some ⟨b, o, none⟩) n6 c6),
              K3.PureV (.slice pt lr ct),
              K3.PureV (.slice (some ⟨g1, o1, none⟩) (q + 1) pc),
              K3.PureV (.pointer (some ⟨g1, o1, none⟩)),
              K3.PureV (.string note),
              K3.PureV (.agg R),
              MadeC wr.heap.size #[.int .u8 0, .int .u8 0, .int .u8 0, .int .u8 0, .int .u8 0, .int .u8 0, .int .u8 0, .int .u8 0, .int .u8 0, .int .u8 0, .int .u8 0, .int .u8 0, .int .u8 0, .int .u8 0, .int .u8 0, .int .u8 0, .int .u8 0, .int .u8 0, .int .u8 0, .int .u8 0, .int .u8 0, .int .u8 0, .int .u8 0, .int .u8 0, .int .u8 0, .int .u8 0, .int .u8 0, .int .u8 0, .int .u8 0, .int .u8 0, .int .u8 0, .int .u8 0, .slice none 0 0, .string ⟨#[]⟩],
              MadeC wr.heap.size R] := ⟨_, rfl⟩
          obtain ⟨Rs, hRs⟩ := hRL
          refine K3.wp_region_rel2 wr.heap.size (Nat.le_refl _) (K3.RL Rs) [2, 2, 2, 2, 2, 2, 2, 2, 2, 1, 1] [1, 1, 1, 1, 1, 1, 1, 1, 1, 1, 2] [[], [], [], [], [], [], [], [], [], [], [9]] (by kernel_rfl) (by kernel_rfl) (K3.RL.st1 (by rw [hRs]; exact K3.st1_cons (K3.PureV.st1 _) (K3.st1_cons (K3.PureV.st1 _) (K3.st1_cons (K3.PureV.st1 _) (K3.st1_cons (K3.PureV.st1 _) (K3.st1_cons (K3.PureV.st1 _) (K3.st1_cons (K3.PureV.st1 _) (K3.st1_cons (K3.PureV.st1 _) (K3.st1_cons (K3.PureV.st1 _) (K3.st1_cons (K3.PureV.st1 _) (K3.st1_cons (MadeC.st1 _ _) (K3.st1_cons (MadeC.st1 _ _) (K3.st1_nil))))))))))))) (K3.RL.st2 (by rw [hRs]; exact K3.st2_cons (K3.PureV.st2 _ _ _) (K3.st2_cons (K3.PureV.st2 _ _ _) (K3.st2_cons (K3.PureV.st2 _ _ _) (K3.st2_cons (K3.PureV.st2 _ _ _) (K3.st2_cons (K3.PureV.st2 _ _ _) (K3.st2_cons (K3.PureV.st2 _ _ _) (K3.st2_cons (K3.PureV.st2 _ _ _) (K3.st2_cons (K3.PureV.st2 _ _ _) (K3.st2_cons (K3.PureV.st2 _ _ _) (K3.st2_skip (K3.st2_skip (K3.st2_nil))))))))))))) ?_ ?_ ?_
          · intro i o d hi hd
            have hmem := List.mem_of_getElem? hi
            simp only [List.mem_cons, List.not_mem_nil, or_false] at hmem
            rcases hmem with rfl | rfl | rfl | rfl | rfl | rfl | rfl | rfl | rfl | rfl | rfl <;> simp at hd <;> (subst hd; simp)
          · refine K3.rel_start (Φ := K3.Hop _ _ _ _ _ _ _) ?_
            refine K3.rel_cons (Φ := K3.Hop _ _ _ _ _ _ _) (k := 0) ?_ ?_
            · intro fa fw hfB hfN hfE hfk hft
              have k6 : fa.eval (.tmp 6) = .slice (some ⟨b, o, none⟩) n6 c6 := hft 6 (K3.mem_looks (by kernel_rfl)) (K3.noneed (by kernel_rfl))
              rw [hRs]
              refine K3.hop_plain rfl ?_
              refine K3.out_move rfl ?_
              exact ⟨k6, Below.refl _ _⟩
            refine K3.rel_cons (Φ := K3.Hop _ _ _ _ _ _ _) (k := 1) ?_ ?_
            · intro fa fw hfB hfN hfE hfk hft
              have k49 : fa.eval (.tmp 49) = (.slice (some ⟨b, o, none⟩) n6 c6) := by have := hfk 0 (K3.mem_needs (by kernel_rfl)) _ rfl; rw [hRs] at this; exact this
              rw [hRs]
              refine K3.hop_plain rfl ?_
              have kc : ∀ v, fa.eval (.const v) = v := fun _ => rfl
              generalize fa.eval = ρ at *
              exact K3.out_run (v := .pointer (some ⟨b, o, none⟩)) (w' := fw) (by simp [execOp, kc, k49, go_sem, hn6]) ⟨rfl, Below.refl _ _⟩
            refine K3.rel_cons (Φ := K3.Hop _ _ _ _ _ _ _) (k := 2) ?_ ?_
            · intro fa fw hfB hfN hfE hfk hft
              have k50 : fa.eval (.tmp 50) = (.pointer (some ⟨b, o, none⟩)) := by have := hfk 1 (K3.mem_needs (by kernel_rfl)) _ rfl; rw [hRs] at this; exact this
              rw [hRs]
              refine K3.hop_plain rfl ?_
              exact out_load3 rfl k50 (run_loadVar_mid (P := Tryd.prog) fw b o 37 (bytV r0) _ (range_below hb6 Hrg.out (hd4.trans hfB)) Tryd.underlying37 rfl (by rw [bytV_len, Hr0.out]; kernel_rfl)) ⟨rfl, Below.refl _ _⟩
            refine K3.rel_cons (Φ := K3.Hop _ _ _ _ _ _ _) (k := 3) ?_ ?_
            · intro fa fw hfB hfN hfE hfk hft
              have k6 : fa.eval (.tmp 6) = .slice (some ⟨b, o, none⟩) n6 c6 := hft 6 (K3.mem_looks (by kernel_rfl)) (K3.noneed (by kernel_rfl))
              rw [hRs]
              refine K3.hop_plain rfl ?_
              refine K3.out_move rfl ?_
              exact ⟨k6, Below.refl _ _⟩
            refine K3.rel_cons (Φ := K3.Hop _ _ _ _ _ _ _) (k := 4) ?_ ?_
            · intro fa fw hfB hfN hfE hfk hft
              have k52 : fa.eval (.tmp 52) = (.slice (some ⟨b, o, none⟩) n6 c6) := by have := hfk 3 (K3.mem_needs (by kernel_rfl)) _ rfl; rw [hRs] at this; exact this
              rw [hRs]
              refine K3.hop_plain rfl ?_
              have kc : ∀ v, fa.eval (.const v) = v := fun _ => rfl
              generalize fa.eval = ρ at *
              exact K3.out_run (v := .slice pt lr ct) (w' := fw) (by unfold execOp; simp only [Option.map, kc, k52, Sem.run_bind, Instr.sliceAt, show (underlying 38).run Tryd.prog fw = .ok (.slice 37) fw from by simp [go_sem], Result.andThen_ok, Hsl.out, Sem.run_pure]) ⟨rfl, Below.refl _ _⟩
            refine K3.rel_cons (Φ := K3.Hop _ _ _ _ _ _ _) (k := 5) ?_ ?_
            · intro fa fw hfB hfN hfE hfk hft
              have k4 : fa.eval (.tmp 4) = .slice (some ⟨g1, o1, none⟩) (q + 1) pc := hft 4 (K3.mem_looks (by kernel_rfl)) (K3.noneed (by kernel_rfl))
              rw [hRs]
              refine K3.hop_plain rfl ?_
              refine K3.out_move rfl ?_
              exact ⟨k4, Below.refl _ _⟩
            refine K3.rel_cons (Φ := K3.Hop _ _ _ _ _ _ _) (k := 6) ?_ ?_
            · intro fa fw hfB hfN hfE hfk hft
              have k54 : fa.eval (.tmp 54) = (.slice (some ⟨g1, o1, none⟩) (q + 1) pc) := by have := hfk 5 (K3.mem_needs (by kernel_rfl)) _ rfl; rw [hRs] at this; exact this
              rw [hRs]
              refine K3.hop_plain rfl ?_
              have kc : ∀ v, fa.eval (.const v) = v := fun _ => rfl
              generalize fa.eval = ρ at *
              exact K3.out_run (v := .pointer (some ⟨g1, o1, none⟩)) (w' := fw) (by simp [execOp, kc, k54, go_sem]) ⟨rfl, Below.refl _ _⟩
            refine K3.rel_cons (Φ := K3.Hop _ _ _ _ _ _ _) (k := 7) ?_ ?_
            · intro fa fw hfB hfN hfE hfk hft
              have k55 : fa.eval (.tmp 55) = (.pointer (some ⟨g1, o1, none⟩)) := by have := hfk 6 (K3.mem_needs (by kernel_rfl)) _ rfl; rw [hRs] at this; exact this
              rw [hRs]
              refine K3.hop_plain rfl ?_
              have h := ((hd4.trans hfB).cell (p := ⟨g1, o1, none⟩) (Nat.lt_of_lt_of_le hg1 HLow.out.size)).trans hc0
              exact out_load3 rfl k55 (by simp [go_sem, h]) ⟨rfl, Below.refl _ _⟩
            refine K3.rel_cons (Φ := K3.Hop _ _ _ _ _ _ _) (k := 8) ?_ ?_
            · intro fa fw hfB hfN hfE hfk hft
              have k51 : fa.eval (.tmp 51) = (.agg (bytV r0).toArray) := by have := hfk 2 (K3.mem_needs (by kernel_rfl)) _ rfl; rw [hRs] at this; exact this
              have k53 : fa.eval (.tmp 53) = (.slice pt lr ct) := by have := hfk 4 (K3.mem_needs (by kernel_rfl)) _ rfl; rw [hRs] at this; exact this
              have k56 : fa.eval (.tmp 56) = (.string note) := by have := hfk 7 (K3.mem_needs (by kernel_rfl)) _ rfl; rw [hRs] at this; exact this
              rw [hRs]
              refine K3.hop_plain rfl ?_
              exact out_build3 rfl (by simp only [List.map_toArray, List.map_cons, List.map_nil, k51, k53, k56]) (Hbu.out fw) ⟨rfl, Below.refl _ _⟩
            refine K3.rel_cons (Φ := K3.Hop _ _ _ _ _ _ _) (k := 9) ?_ ?_
            · intro fa fw hfB hfN hfE hfk hft
              rw [hRs]
              refine K3.hop_plain rfl ?_
              generalize fa.eval = ρ at *
              exact K3.out_run (v := .pointer (some ⟨fw.heap.size, 0, none⟩)) (w' := fw.alloc (.cells #[.int .u8 0, .int .u8 0, .int .u8 0, .int .u8 0, .int .u8 0, .int .u8 0, .int .u8 0, .int .u8 0, .int .u8 0, .int .u8 0, .int .u8 0, .int .u8 0, .int .u8 0, .int .u8 0, .int .u8 0, .int .u8 0, .int .u8 0, .int .u8 0, .int .u8 0, .int .u8 0, .int .u8 0, .int .u8 0, .int .u8 0, .int .u8 0, .int .u8 0, .int .u8 0, .int .u8 0, .int .u8 0, .int .u8 0, .int .u8 0, .int .u8 0, .int .u8 0, .slice none 0 0, .string ⟨#[]⟩] 40)) (by simp [execOp, go_sem]) ⟨⟨fw.heap.size, hfN, rfl, heap_alloc_new _ _⟩, (Below.refl _ _).alloc (Nat.le_refl _) _⟩
            refine K3.rel_cons (Φ := K3.Hop _ _ _ _ _ _ _) (k := 10) ?_ ?_
            · intro fa fw hfB hfN hfE hfk hft
              have k11 : (MadeC wr.heap.size #[.int .u8 0, .int .u8 0, .int .u8 0, .int .u8 0, .int .u8 0, .int .u8 0, .int .u8 0, .int .u8 0, .int .u8 0, .int .u8 0, .int .u8 0, .int .u8 0, .int .u8 0, .int .u8 0, .int .u8 0, .int .u8 0, .int .u8 0, .int .u8 0, .int .u8 0, .int .u8 0, .int .u8 0, .int .u8 0, .int .u8 0, .int .u8 0, .int .u8 0, .int .u8 0, .int .u8 0, .int .u8 0, .int .u8 0, .int .u8 0, .int .u8 0, .int .u8 0, .slice none 0 0, .string ⟨#[]⟩]) (fa.eval (.tmp 11)) fw := by have := hfk 9 (K3.mem_needs (by kernel_rfl)) _ rfl; rw [hRs] at this; exact this
              have k57 : fa.eval (.tmp 57) = (.agg R) := by have := hfk 8 (K3.mem_needs (by kernel_rfl)) _ rfl; rw [hRs] at this; exact this
              rw [hRs]
              refine K3.hop_plain rfl ?_
              obtain ⟨B, hB0, hBv, hBh⟩ := k11.e
              exact out_store rfl (show fa.eval (.tmp 11) = _ from hBv) k57 hBh HRi.out (by rw [HRs.out]; rfl) HRo.out ⟨(show MadeC wr.heap.size R (fa.tmps.getD 11 undef) _ from ⟨B, hB0, hBv, setRow_heap _ _ _ _ _ _ hBh⟩), below_setRow (Below.refl _ _) hB0 _⟩
            exact K3.rel_nil
          · intro fa fw hfB hfy hff hfs hfd
            rw [hRs] at hfy
            have k11 : MadeC wr.heap.size R (fa.tmps.getD 11 undef) fw := hfy 10 _ rfl (K3.unkilled (by decide))
            have HBf := Lib.hid (show Below wr.heap.size wr fw from hd4.trans hfB)
            have e := K3.rel_frame [49, 50, 51, 52, 53, 54, 55, 56, 57, 11] (by kernel_rfl) hff hfs hfd
            simp only [List.foldl] at e
            clear hfy hff hfs hfd 
            generalize fa.tmps.getD 49 undef = x49 at e
            generalize fa.tmps.getD 50 undef = x50 at e
            generalize fa.tmps.getD 51 undef = x51 at e
            generalize fa.tmps.getD 52 undef = x52 at e
            generalize fa.tmps.getD 53 undef = x53 at e
            generalize fa.tmps.getD 54 undef = x54 at e
            generalize fa.tmps.getD 55 undef = x55 at e
            generalize fa.tmps.getD 56 undef = x56 at e
            generalize fa.tmps.getD 57 undef = x57 at e
            generalize fa.tmps.getD 11 undef = x11 at e k11
            simp [List.setIfInBounds_toArray, List.set_cons_succ, List.set_cons_zero] at e
            subst e
            obtain ⟨B, hB0, rfl, hBh⟩ := k11.e
            clear k11 hfB
            have HCf := Lib.hid (HC.out.below HBf.out)
            have Hvf := Lib.hid (Hvt.out.below HBf.out)
            cases hg : goodC L note with
            | false =>
              have Hfin := Lib.hid (show getC s = none by rw [HgC.out, hg]; rfl)
              rw [hg] at Hgood
              clear hg
              go_wp2_with (first | (refine wpList_load_row rfl 40 (.tmp 11) rfl B rfl 40 R (0, 0) _ hBh Tryd.underlying40 rfl HRi.out ?_))
              refine (Hgood.out fw).mono ?_
              rintro e w5 ⟨rfl, hB5⟩
              obtain ⟨cs, hcs, hcz⟩ := (HCf.out.below hB5).at_
              have HB5 := Lib.hid (HCf.out.below hB5).b
              clear hB5
              go_wp2_with (first | (refine wpList_store_rowTo rfl 40 (.tmp 2) (.tmp 61) rfl rfl w.heap.size #[.int .u8 0, .int .u8 0, .int .u8 0, .int .u8 0, .int .u8 0, .int .u8 0, .int .u8 0, .int .u8 0, .int .u8 0, .int .u8 0, .int .u8 0, .int .u8 0, .int .u8 0, .int .u8 0, .int .u8 0, .int .u8 0, .int .u8 0, .int .u8 0, .int .u8 0, .int .u8 0, .int .u8 0, .int .u8 0, .int .u8 0, .int .u8 0, .int .u8 0, .int .u8 0, .int .u8 0, .int .u8 0, .int .u8 0, .int .u8 0, .int .u8 0, .int .u8 0, .slice none 0 0, .string ⟨#[]⟩] rfl rfl 40 cs hcs HZi.out hcz HZo.out ?_))
              refine bodyPost_ret (v := .tuple #[.agg #[.int .u8 0, .int .u8 0, .int .u8 0, .int .u8 0, .int .u8 0, .int .u8 0, .int .u8 0, .int .u8 0, .int .u8 0, .int .u8 0, .int .u8 0, .int .u8 0, .int .u8 0, .int .u8 0, .int .u8 0, .int .u8 0, .int .u8 0, .int .u8 0, .int .u8 0, .int .u8 0, .int .u8 0, .int .u8 0, .int .u8 0, .int .u8 0, .int .u8 0, .int .u8 0, .int .u8 0, .int .u8 0, .int .u8 0, .int .u8 0, .int .u8 0, .int .u8 0, .slice none 0 0, .string ⟨#[]⟩], .int .i64 4]) (results_cell_tmp (fr := (0, 0)) rfl _ _ w.heap.size 40 _ _ _ rfl rfl (setRow_heap _ _ _ #[.int .u8 0, .int .u8 0, .int .u8 0, .int .u8 0, .int .u8 0, .int .u8 0, .int .u8 0, .int .u8 0, .int .u8 0, .int .u8 0, .int .u8 0, .int .u8 0, .int .u8 0, .int .u8 0, .int .u8 0, .int .u8 0, .int .u8 0, .int .u8 0, .int .u8 0, .int .u8 0, .int .u8 0, .int .u8 0, .int .u8 0, .int .u8 0, .int .u8 0, .int .u8 0, .int .u8 0, .int .u8 0, .int .u8 0, .int .u8 0, .int .u8 0, .int .u8 0, .slice none 0 0, .string ⟨#[]⟩] 40 (0, 0) hcs) Tryd.underlying40 rfl HZi.out) rfl ?_
              exact cget_none Hfin.out (below_setRow HB5.out (Nat.le_refl _) _)
            | true =>
              have Hfin := Lib.hid (show getC s = some (r0, L, note) by rw [HgC.out, hg]; rfl)
              rw [hg] at Hgood
              clear hg
              go_wp2_with (first | (refine wpList_load_row rfl 40 (.tmp 11) rfl B rfl 40 R (0, 0) _ hBh Tryd.underlying40 rfl HRi.out ?_))
              refine (Hgood.out fw).mono ?_
              rintro e w5 ⟨rfl, hB5⟩
              obtain ⟨cs, hcs, hcz⟩ := (HCf.out.below hB5).at_
              have HB5 := Lib.hid (HCf.out.below hB5).b
              have hBh5 := (hB5.block _ (Array.getElem?_eq_some_iff.1 hBh).1).trans hBh
              have Hv5 := Lib.hid (Hvf.out.below hB5)
              clear hB5
              go_wp2_with (first | (refine wpList_load_row rfl 40 (.tmp 11) rfl B rfl 40 R (0, 0) _ hBh5 Tryd.underlying40 rfl HRi.out ?_) | (refine wpList_store_rowTo rfl 40 (.tmp 2) (.tmp 62) rfl rfl w.heap.size R rfl rfl 40 cs hcs HRi.out (by rw [hcz, HRs.out]) HRo.out ?_))
              refine bodyPost_ret (v := .tuple #[.agg R, .int .i64 0]) (results_cell_tmp (fr := (0, 0)) rfl _ _ w.heap.size 40 _ _ _ rfl rfl (setRow_heap _ _ _ R 40 (0, 0) hcs) Tryd.underlying40 rfl HRi.out) rfl ?_
              have hL := LAt.far (n := 32) (fl := bytV) Hv5.out w.heap.size R Hfar.out
              rw [HR.out] at hL ⊢
              exact cget_some Hfin.out (below_setRow HB5.out (Nat.le_refl _) _) Hlr.out hL
end Go.Proofs.YtdhaanaenklleaaDoor
namespace Go.Proofs.YtdhaanaenklleaaDoor
set_option linter.unusedVariables false
set_option linter.unusedSimpArgs false
open Go.ChangeShapes Go.WideShapes Go.ChangeAt Go.RowKit

/-- The box of the commit that was handed in. -/
structure CellR (w : World) (R : Array Value) (x : World) : Prop where
  at_ : x.heap[w.heap.size]? = some (.cells R 40 (0, 0))
  b : Below w.heap.size w x
theorem CellR.below {w x y : World} {R : Array Value} (h : CellR w R x) (hB : Below x.heap.size x y) : CellR w R y :=
  ⟨(hB.block _ (Array.getElem?_eq_some_iff.1 h.at_).1).trans h.at_, h.b.trans (hB.mono h.b.size)⟩
theorem CellR.made (w : World) (R : Array Value) : CellR w R (w.alloc (.cells R 40)) := ⟨heap_alloc_new _ _, (Below.refl _ _).alloc (Nat.le_refl _) _⟩
theorem wpList_load_at_g {P : Program} {ops : Array Oper} {rest : List Oper} {o : Oper} {a : Act} {w : World} {Q : Exit → Act → World → Prop} (hw : Region.wanted o (yielded ops a.tmps) = true) (ty : TypeId) (x : Operand) (ho : o.op = .load ty x)
    (p : Addr) (hx : a.eval x = .pointer (some p)) (v : Value) (hr : (loadVar ty p).run P w = .ok v w) (h : wpList P ops Q rest (a.put o.dst v) w) : wpList P ops Q (o :: rest) a w :=
  Go.BigFrame.wpList_want hw fun _ hK => by
    unfold Oper.wp execOp
    simp only [ho, hx, Instr.loadAt, Instr.sureAddr, Sem.run_bind, Sem.run_pure, Result.andThen_ok, hr]
    exact hK _ _ h
theorem load_box {x : World} {B : Nat} {R : Array Value} (h : x.heap[B]? = some (.cells R 40 (0, 0))) (hi : (Tryd.prog.info? 40).map (·.size) = some R.size) : (loadVar 40 ⟨B, 0, none⟩).run Tryd.prog x = .ok (.agg R) x :=
  run_loadVar_row x B 40 40 R (0, 0) _ h Tryd.underlying40 rfl hi
theorem treeB_size {a : List Ent} (hz : ∀ x ∈ a, x.1.size ≤ 4096) (h32 : ∀ x ∈ a, x.2.2.1.length = 32) (hn : a.length ≤ 60) : (treeB a).size ≤ 1048576 := by
  unfold treeB
  rw [sjoin_size, partsE_len]
  have h := total_parts (n := 4096) a (fun x hx => ⟨hz x hx, h32 x hx⟩)
  have h2 : a.length * (4096 + 36) ≤ 60 * (4096 + 36) := Nat.mul_le_mul_right _ hn
  omega
theorem commitB_size {root : List UInt8} {L : List (List UInt8)} {note : ByteArray} (hr : root.length = 32) (hL : ∀ x ∈ L, x.length = 32) (hn : note.size ≤ 1048) (hl : L.length ≤ 60) : (commitB root L note).size ≤ 1048576 := by
  unfold commitB
  rw [sjoin_size, total_partsC hr hL]
  unfold partsC
  simp only [List.length_append, List.length_map, List.length_cons, List.length_nil]
  omega
theorem back_tree {a : List Ent} (hg : goodT a = true) (hz : ∀ x ∈ a, x.1.size ≤ 4096) (h32 : ∀ x ∈ a, x.2.2.1.length = 32) (hn : a.length ≤ 60) : getT (treeB a) = some a :=
  getT_tree hg (fun x hx => ⟨h32 x hx, by have := hz x hx; omega⟩) (by omega)
/-- The same bytes again. -/
theorem put_tree_back {s : ByteArray} {l : List Ent} (h : getT s = some l) : putR l = .tuple #[.string s, .int .i64 0] := by
  obtain ⟨h1, h2, _, _⟩ := getT_some h
  unfold putR
  rw [h1, if_pos rfl, if_pos rfl, h2]
theorem put_commit_back {s : ByteArray} {c : Cm} (h : getC s = some c) : putC c.1 c.2.1 c.2.2 = .tuple #[.string s, .int .i64 0] := by
  obtain ⟨h1, h2, _, _⟩ := getC_some h
  unfold putC
  rw [h1, if_pos rfl, if_pos rfl, h2]
end Go.Proofs.YtdhaanaenklleaaDoor
namespace Go.Proofs.YtdhaanaenklleaaDoor
set_option linter.unusedVariables false
set_option linter.unusedSimpArgs false
open Go.ChangeShapes Go.WideShapes Go.ChangeAt Go.RowKit

set_option maxRecDepth 100000 in
set_option maxHeartbeats 20000000 in
theorem back7_any (v : Value) (a : List Ent) (root : List UInt8) (L : List (List UInt8)) (note b : ByteArray) (pp : Option Addr) (ln pc : Nat) (w : World) (hM : MaxAt w) (hv : Rows w 34 entR v a)
    (hr : root.length = 32) (hln : ln = L.length) (hL : LAt 32 bytV w (.slice pp ln pc) L) (hn : note.size ≤ 140737488351232) (hb : b.size ≤ 140737488351232) :
    Calls Tryd.prog 5 #[v, cmV root (.slice pp ln pc) note, .string b] w (LawEnd w) := by
  have H32 := Lib.hid hr
  have Hln := Lib.hid hln
  have HLv := Lib.hid hL
  have HL32 := Lib.hid (par_at hln hL).1
  have HM := Lib.hid hM
  have Hv := Lib.hid hv
  have HA := Lib.hid (fun w1 (h1 : Below w.heap.size w w1) => alive7_any w1 (hM.below h1))
  have HO := Lib.hid (fun w1 (h1 : Below w.heap.size w w1) => greatTree_any v a w1 (hv.below h1))
  have HGC := Lib.hid (fun w1 => greatCommit_any root note pp ln pc w1 hr)
  have HPC0 := Lib.hid (fun w1 (h1 : Below w.heap.size w w1) (hn : note.size ≤ 1048576) (hl : ln ≤ 1048576) => putCommit_any root L note pp ln pc w1 hr hln (hL.below h1) hn hl)
  have hRi := cm_size (pv := .slice pp ln pc) (note := note) hr
  have h32e : ∀ x ∈ a, x.2.2.1.length = 32 := fun x hx => by
    have h := (LAt.ofRows (n := 34) (fl := entV) (R := entR) (by decide) (fun x cs hx => (ent_cells hx).1) hv).1 x hx
    simp only [entV, List.length_cons, bytV_len] at h
    omega
  unfold cmV at HGC HPC0 ⊢
  obtain ⟨R, hR⟩ : ∃ R, R = (cmL root (.slice pp ln pc) note).toArray := ⟨_, rfl⟩
  rw [← hR] at HGC HPC0 hRi ⊢
  have HR := Lib.hid hR
  have HRi := Lib.hid hRi
  clear hM hv hr hln hL hRi hR
  cases hg : greatE a with
  | true =>
    rw [hg] at HO
    clear hg
    go_enter Tryd.func5, Tryd.ntmps5
    go_wp2_with fail
    refine (HA.out _ ((Below.refl _ _).alloc (Nat.le_refl _) _)).mono ?_
    rintro e w1 ⟨rfl, hB2⟩
    have HX := Lib.hid ((CellR.made w R).below hB2)
    clear hB2
    go_wp2_with fail
    refine (HO.out _ HX.out.b).mono ?_
    rintro e w2 ⟨rfl, hB2⟩
    replace HX := Lib.hid (HX.out.below hB2)
    clear hB2
    go_wp2_with fail
    go_ret
    exact ⟨rfl, HX.out.b⟩
  | false =>
    obtain ⟨hz, hna, hsum⟩ := greatE_no hg
    rw [hg] at HO
    clear hg hsum
    cases hgc0 : (decide (60 < ln) || decide (1024 < note.size)) with
    | true =>
      rw [hgc0] at HGC
      clear hgc0
      go_enter Tryd.func5, Tryd.ntmps5
      go_wp2_with fail
      refine (HA.out _ ((Below.refl _ _).alloc (Nat.le_refl _) _)).mono ?_
      rintro e w1 ⟨rfl, hB2⟩
      have HX := Lib.hid ((CellR.made w R).below hB2)
      clear hB2
      go_wp2_with fail
      refine (HO.out _ HX.out.b).mono ?_
      rintro e w2 ⟨rfl, hB2⟩
      replace HX := Lib.hid (HX.out.below hB2)
      clear hB2
      go_wp2_with (first | (refine wpList_load_at_g (by simp [Region.wanted, yielded, Act.put]) 40 (.tmp 4) rfl ⟨w.heap.size, 0, none⟩ rfl (.agg R) (load_box HX.out.at_ HRi.out) ?_))
      refine (HGC.out _).mono ?_
      rintro e w2 ⟨rfl, hB2⟩
      replace HX := Lib.hid (HX.out.below hB2)
      clear hB2
      go_wp2_with fail
      go_ret
      exact ⟨rfl, HX.out.b⟩
    | false =>
      rw [hgc0] at HGC
      rw [Bool.or_eq_false_iff] at hgc0
      have hl60 := of_decide_eq_false hgc0.1
      have hnn := of_decide_eq_false hgc0.2
      clear hgc0
      by_cases hbs : 4096 < b.size
      · have hbI : (4096 : Int) < (b.size : Int) := by omega
        go_enter Tryd.func5, Tryd.ntmps5
        go_wp2_with fail
        refine (HA.out _ ((Below.refl _ _).alloc (Nat.le_refl _) _)).mono ?_
        rintro e w1 ⟨rfl, hB2⟩
        have HX := Lib.hid ((CellR.made w R).below hB2)
        clear hB2
        go_wp2_with fail
        refine (HO.out _ HX.out.b).mono ?_
        rintro e w2 ⟨rfl, hB2⟩
        replace HX := Lib.hid (HX.out.below hB2)
        clear hB2
        go_wp2_with (first | (refine wpList_load_at_g (by simp [Region.wanted, yielded, Act.put]) 40 (.tmp 4) rfl ⟨w.heap.size, 0, none⟩ rfl (.agg R) (load_box HX.out.at_ HRi.out) ?_))
        refine (HGC.out _).mono ?_
        rintro e w2 ⟨rfl, hB2⟩
        replace HX := Lib.hid (HX.out.below hB2)
        clear hB2
        go_wp2_with fail
        go_ret
        exact ⟨rfl, HX.out.b⟩
      · have hbI : ¬ (4096 : Int) < (b.size : Int) := by omega
        have HP := Lib.hid (fun w1 (h1 : Below w.heap.size w w1) => putTree_any v a w1 (HM.out.below h1) (Hv.out.below h1) (fun x hx => by have := hz x hx; omega) (by omega))
        have HPC := Lib.hid (fun w1 (h1 : Below w.heap.size w w1) => HPC0.out w1 h1 (by omega) (by omega))
        have HGt := Lib.hid (fun w1 (h1 : Below w.heap.size w w1) => getTree_any b w1 (HM.out.below h1) (by omega))
        have HGc := Lib.hid (fun w1 => getCommit_any b w1 (by omega))
        cases hgd0 : goodT a with
        | false =>
          have hp0 : putR a = .tuple #[.string ⟨#[]⟩, .int .i64 1] := by unfold putR; rw [hgd0]; rfl
          rw [hp0] at HP
          clear hgd0 hp0 hz h32e
          cases hgd : goodC L note with
          | false =>
            have hpc : putC root L note = .tuple #[.string ⟨#[]⟩, .int .i64 1] := by unfold putC; rw [hgd]; rfl
            rw [hpc] at HPC
            clear hgd hpc
            cases hgt : getT b with
            | none =>
              rw [hgt] at HGt
              clear hgt
              cases hgc : getC b with
              | none =>
                rw [hgc] at HGc
                clear hgc
                go_enter Tryd.func5, Tryd.ntmps5
                go_wp2_with fail
                refine (HA.out _ ((Below.refl _ _).alloc (Nat.le_refl _) _)).mono ?_
                rintro e w1 ⟨rfl, hB2⟩
                have HX := Lib.hid ((CellR.made w R).below hB2)
                clear hB2
                go_wp2_with fail
                refine (HO.out _ HX.out.b).mono ?_
                rintro e w2 ⟨rfl, hB2⟩
                replace HX := Lib.hid (HX.out.below hB2)
                clear hB2
                go_wp2_with (first | (refine wpList_load_at_g (by simp [Region.wanted, yielded, Act.put]) 40 (.tmp 4) rfl ⟨w.heap.size, 0, none⟩ rfl (.agg R) (load_box HX.out.at_ HRi.out) ?_))
                refine (HGC.out _).mono ?_
                rintro e w2 ⟨rfl, hB2⟩
                replace HX := Lib.hid (HX.out.below hB2)
                clear hB2
                go_wp2_with fail
                refine (HP.out _ HX.out.b).mono ?_
                rintro e w2 ⟨rfl, hB2⟩
                replace HX := Lib.hid (HX.out.below hB2)
                clear hB2
                go_wp2_with (first | (refine wpList_load_at_g (by simp [Region.wanted, yielded, Act.put]) 40 (.tmp 4) rfl ⟨w.heap.size, 0, none⟩ rfl (.agg R) (load_box HX.out.at_ HRi.out) ?_))
                refine (HPC.out _ HX.out.b).mono ?_
                rintro e w2 ⟨rfl, hB2⟩
                replace HX := Lib.hid (HX.out.below hB2)
                clear hB2
                go_wp2_with fail
                refine (HGt.out _ HX.out.b).mono ?_
                rintro e w2 ⟨hB2, rfl⟩
                replace HX := Lib.hid (HX.out.below hB2)
                clear hB2
                go_wp2_with fail
                refine (HGc.out _).mono ?_
                rintro e w2 ⟨hB2, p2, n2, k2, rfl, hn2, hL2⟩
                replace HX := Lib.hid (HX.out.below hB2)
                clear hB2
                go_wp2_with (first | (refine wpList_store_rowTo rfl 40 (.tmp 19) (.tmp 98) rfl rfl w2.heap.size _ rfl rfl 40 _ (heap_alloc_new w2 _) (cm_size (by decide)) (by rw [cm_len34 (by decide)]; rfl) (cm_one _ _ _ _ _) ?_; refine box_absL (boxL_made w2 _ 40 _) ?_; intro w4 hbx; replace HX := Lib.hid (HX.out.below hbx.b); clear hbx))
                go_ret
                exact ⟨rfl, HX.out.b⟩
              | some c0 =>
                rw [hgc] at HGc
                have Hpb := Lib.hid (put_commit_back hgc)
                obtain ⟨hc1, hc2, hc3, hc4⟩ := getC_some hgc
                unfold goodC at hc1
                simp only [Bool.and_eq_true, decide_eq_true_eq] at hc1
                have Hc32 := Lib.hid hc3
                have Hcn := Lib.hid (show c0.2.2.size ≤ 1048576 by omega)
                have Hcl := Lib.hid (show c0.2.1.length ≤ 1048576 by omega)
                clear hgc hc1 hc2 hc3 hc4
                go_enter Tryd.func5, Tryd.ntmps5
                go_wp2_with fail
                refine (HA.out _ ((Below.refl _ _).alloc (Nat.le_refl _) _)).mono ?_
                rintro e w1 ⟨rfl, hB2⟩
                have HX := Lib.hid ((CellR.made w R).below hB2)
                clear hB2
                go_wp2_with fail
                refine (HO.out _ HX.out.b).mono ?_
                rintro e w2 ⟨rfl, hB2⟩
                replace HX := Lib.hid (HX.out.below hB2)
                clear hB2
                go_wp2_with (first | (refine wpList_load_at_g (by simp [Region.wanted, yielded, Act.put]) 40 (.tmp 4) rfl ⟨w.heap.size, 0, none⟩ rfl (.agg R) (load_box HX.out.at_ HRi.out) ?_))
                refine (HGC.out _).mono ?_
                rintro e w2 ⟨rfl, hB2⟩
                replace HX := Lib.hid (HX.out.below hB2)
                clear hB2
                go_wp2_with fail
                refine (HP.out _ HX.out.b).mono ?_
                rintro e w2 ⟨rfl, hB2⟩
                replace HX := Lib.hid (HX.out.below hB2)
                clear hB2
                go_wp2_with (first | (refine wpList_load_at_g (by simp [Region.wanted, yielded, Act.put]) 40 (.tmp 4) rfl ⟨w.heap.size, 0, none⟩ rfl (.agg R) (load_box HX.out.at_ HRi.out) ?_))
                refine (HPC.out _ HX.out.b).mono ?_
                rintro e w2 ⟨rfl, hB2⟩
                replace HX := Lib.hid (HX.out.below hB2)
                clear hB2
                go_wp2_with fail
                refine (HGt.out _ HX.out.b).mono ?_
                rintro e w2 ⟨hB2, rfl⟩
                replace HX := Lib.hid (HX.out.below hB2)
                clear hB2
                go_wp2_with fail
                refine (HGc.out _).mono ?_
                rintro e w2 ⟨hB2, p2, n2, k2, rfl, hn2, hL2⟩
                replace HX := Lib.hid (HX.out.below hB2)
                clear hB2
                have HPb := Lib.hid (fun w5 (h5 : Below w2.heap.size w2 w5) => putCommit_any c0.1 c0.2.1 c0.2.2 p2 n2 k2 w5 Hc32.out hn2 (hL2.below h5) Hcn.out (by rw [hn2]; exact Hcl.out))
                rw [Hpb.out] at HPb
                clear hn2 hL2
                go_wp2_with (first | (refine wpList_store_rowTo rfl 40 (.tmp 19) (.tmp 98) rfl rfl w2.heap.size (cmL c0.1 (.slice p2 n2 k2) c0.2.2).toArray rfl rfl 40 _ (heap_alloc_new w2 _) (cm_size Hc32.out) (by rw [cm_len34 Hc32.out]; rfl) (cm_one _ _ _ _ _) ?_; refine box_absL (boxL_made w2 _ 40 (cmL c0.1 (.slice p2 n2 k2) c0.2.2)) ?_; intro w4 hbx; replace HX := Lib.hid (HX.out.below hbx.b); have HBX := Lib.hid hbx; clear hbx) | (refine wpList_load_mid rfl 40 (.tmp 19) rfl w2.heap.size 0 rfl (cmL c0.1 (.slice p2 n2 k2) c0.2.2) _ (fun j y hj => by rw [Nat.zero_add]; exact HBX.out.r j y hj) Tryd.underlying40 rfl (by have := cm_size (pv := .slice p2 n2 k2) (note := c0.2.2) Hc32.out; rwa [List.size_toArray] at this) ?_))
                refine (HPb.out _ HBX.out.b).mono ?_
                rintro e w5 ⟨rfl, hB2⟩
                replace HX := Lib.hid (HX.out.below hB2)
                clear hB2
                go_wp2_with fail
                go_ret
                exact ⟨rfl, HX.out.b⟩
            | some x0 =>
              rw [hgt] at HGt
              have Hpt := Lib.hid (put_tree_back hgt)
              obtain ⟨_, _, hx1, hx2⟩ := getT_some hgt
              have Hx1 := Lib.hid (show ∀ y ∈ x0, y.1.size ≤ 65536 from fun y hy => by have := (hx1 y hy).2; omega)
              have Hx2 := Lib.hid (show x0.length ≤ 65536 by omega)
              clear hgt hx1 hx2
              cases hgc : getC b with
              | none =>
                rw [hgc] at HGc
                clear hgc
                go_enter Tryd.func5, Tryd.ntmps5
                go_wp2_with fail
                refine (HA.out _ ((Below.refl _ _).alloc (Nat.le_refl _) _)).mono ?_
                rintro e w1 ⟨rfl, hB2⟩
                have HX := Lib.hid ((CellR.made w R).below hB2)
                clear hB2
                go_wp2_with fail
                refine (HO.out _ HX.out.b).mono ?_
                rintro e w2 ⟨rfl, hB2⟩
                replace HX := Lib.hid (HX.out.below hB2)
                clear hB2
                go_wp2_with (first | (refine wpList_load_at_g (by simp [Region.wanted, yielded, Act.put]) 40 (.tmp 4) rfl ⟨w.heap.size, 0, none⟩ rfl (.agg R) (load_box HX.out.at_ HRi.out) ?_))
                refine (HGC.out _).mono ?_
                rintro e w2 ⟨rfl, hB2⟩
                replace HX := Lib.hid (HX.out.below hB2)
                clear hB2
                go_wp2_with fail
                refine (HP.out _ HX.out.b).mono ?_
                rintro e w2 ⟨rfl, hB2⟩
                replace HX := Lib.hid (HX.out.below hB2)
                clear hB2
                go_wp2_with (first | (refine wpList_load_at_g (by simp [Region.wanted, yielded, Act.put]) 40 (.tmp 4) rfl ⟨w.heap.size, 0, none⟩ rfl (.agg R) (load_box HX.out.at_ HRi.out) ?_))
                refine (HPC.out _ HX.out.b).mono ?_
                rintro e w2 ⟨rfl, hB2⟩
                replace HX := Lib.hid (HX.out.below hB2)
                clear hB2
                go_wp2_with fail
                refine (HGt.out _ HX.out.b).mono ?_
                rintro e w2 ⟨hB2, x, rfl, hx⟩
                have HPt := Lib.hid (putTree_any x x0 w2 (HM.out.below (HX.out.below hB2).b) hx Hx1.out Hx2.out)
                rw [Hpt.out] at HPt
                replace HX := Lib.hid (HX.out.below hB2)
                clear hB2
                go_wp2_with fail
                refine (HPt.out).mono ?_
                rintro e w2 ⟨rfl, hB2⟩
                replace HX := Lib.hid (HX.out.below hB2)
                clear hB2
                go_wp2_with fail
                refine (HGc.out _).mono ?_
                rintro e w2 ⟨hB2, p2, n2, k2, rfl, hn2, hL2⟩
                replace HX := Lib.hid (HX.out.below hB2)
                clear hB2
                go_wp2_with (first | (refine wpList_store_rowTo rfl 40 (.tmp 19) (.tmp 98) rfl rfl w2.heap.size _ rfl rfl 40 _ (heap_alloc_new w2 _) (cm_size (by decide)) (by rw [cm_len34 (by decide)]; rfl) (cm_one _ _ _ _ _) ?_; refine box_absL (boxL_made w2 _ 40 _) ?_; intro w4 hbx; replace HX := Lib.hid (HX.out.below hbx.b); clear hbx))
                go_ret
                exact ⟨rfl, HX.out.b⟩
              | some c0 =>
                rw [hgc] at HGc
                have Hpb := Lib.hid (put_commit_back hgc)
                obtain ⟨hc1, hc2, hc3, hc4⟩ := getC_some hgc
                unfold goodC at hc1
                simp only [Bool.and_eq_true, decide_eq_true_eq] at hc1
                have Hc32 := Lib.hid hc3
                have Hcn := Lib.hid (show c0.2.2.size ≤ 1048576 by omega)
                have Hcl := Lib.hid (show c0.2.1.length ≤ 1048576 by omega)
                clear hgc hc1 hc2 hc3 hc4
                go_enter Tryd.func5, Tryd.ntmps5
                go_wp2_with fail
                refine (HA.out _ ((Below.refl _ _).alloc (Nat.le_refl _) _)).mono ?_
                rintro e w1 ⟨rfl, hB2⟩
                have HX := Lib.hid ((CellR.made w R).below hB2)
                clear hB2
                go_wp2_with fail
                refine (HO.out _ HX.out.b).mono ?_
                rintro e w2 ⟨rfl, hB2⟩
                replace HX := Lib.hid (HX.out.below hB2)
                clear hB2
                go_wp2_with (first | (refine wpList_load_at_g (by simp [Region.wanted, yielded, Act.put]) 40 (.tmp 4) rfl ⟨w.heap.size, 0, none⟩ rfl (.agg R) (load_box HX.out.at_ HRi.out) ?_))
                refine (HGC.out _).mono ?_
                rintro e w2 ⟨rfl, hB2⟩
                replace HX := Lib.hid (HX.out.below hB2)
                clear hB2
                go_wp2_with fail
                refine (HP.out _ HX.out.b).mono ?_
                rintro e w2 ⟨rfl, hB2⟩
                replace HX := Lib.hid (HX.out.below hB2)
                clear hB2
                go_wp2_with (first | (refine wpList_load_at_g (by simp [Region.wanted, yielded, Act.put]) 40 (.tmp 4) rfl ⟨w.heap.size, 0, none⟩ rfl (.agg R) (load_box HX.out.at_ HRi.out) ?_))
                refine (HPC.out _ HX.out.b).mono ?_
                rintro e w2 ⟨rfl, hB2⟩
                replace HX := Lib.hid (HX.out.below hB2)
                clear hB2
                go_wp2_with fail
                refine (HGt.out _ HX.out.b).mono ?_
                rintro e w2 ⟨hB2, x, rfl, hx⟩
                have HPt := Lib.hid (putTree_any x x0 w2 (HM.out.below (HX.out.below hB2).b) hx Hx1.out Hx2.out)
                rw [Hpt.out] at HPt
                replace HX := Lib.hid (HX.out.below hB2)
                clear hB2
                go_wp2_with fail
                refine (HPt.out).mono ?_
                rintro e w2 ⟨rfl, hB2⟩
                replace HX := Lib.hid (HX.out.below hB2)
                clear hB2
                go_wp2_with fail
                refine (HGc.out _).mono ?_
                rintro e w2 ⟨hB2, p2, n2, k2, rfl, hn2, hL2⟩
                replace HX := Lib.hid (HX.out.below hB2)
                clear hB2
                have HPb := Lib.hid (fun w5 (h5 : Below w2.heap.size w2 w5) => putCommit_any c0.1 c0.2.1 c0.2.2 p2 n2 k2 w5 Hc32.out hn2 (hL2.below h5) Hcn.out (by rw [hn2]; exact Hcl.out))
                rw [Hpb.out] at HPb
                clear hn2 hL2
                go_wp2_with (first | (refine wpList_store_rowTo rfl 40 (.tmp 19) (.tmp 98) rfl rfl w2.heap.size (cmL c0.1 (.slice p2 n2 k2) c0.2.2).toArray rfl rfl 40 _ (heap_alloc_new w2 _) (cm_size Hc32.out) (by rw [cm_len34 Hc32.out]; rfl) (cm_one _ _ _ _ _) ?_; refine box_absL (boxL_made w2 _ 40 (cmL c0.1 (.slice p2 n2 k2) c0.2.2)) ?_; intro w4 hbx; replace HX := Lib.hid (HX.out.below hbx.b); have HBX := Lib.hid hbx; clear hbx) | (refine wpList_load_mid rfl 40 (.tmp 19) rfl w2.heap.size 0 rfl (cmL c0.1 (.slice p2 n2 k2) c0.2.2) _ (fun j y hj => by rw [Nat.zero_add]; exact HBX.out.r j y hj) Tryd.underlying40 rfl (by have := cm_size (pv := .slice p2 n2 k2) (note := c0.2.2) Hc32.out; rwa [List.size_toArray] at this) ?_))
                refine (HPb.out _ HBX.out.b).mono ?_
                rintro e w5 ⟨rfl, hB2⟩
                replace HX := Lib.hid (HX.out.below hB2)
                clear hB2
                go_wp2_with fail
                go_ret
                exact ⟨rfl, HX.out.b⟩
          | true =>
            have hpc : putC root L note = .tuple #[.string (commitB root L note), .int .i64 0] := by unfold putC; rw [hgd]; rfl
            rw [hpc] at HPC
            have hg2 := getC_put hgd H32.out HL32.out
            have HGC2 := Lib.hid (fun w1 => getCommit_any (commitB root L note) w1 (commitB_size H32.out HL32.out (by omega) (by have := Hln.out; omega)))
            rw [hg2] at HGC2
            generalize commitB root L note = CB at *
            clear hgd hpc hg2
            cases hgt : getT b with
            | none =>
              rw [hgt] at HGt
              clear hgt
              cases hgc : getC b with
              | none =>
                rw [hgc] at HGc
                clear hgc
                go_enter Tryd.func5, Tryd.ntmps5
                go_wp2_with fail
                refine (HA.out _ ((Below.refl _ _).alloc (Nat.le_refl _) _)).mono ?_
                rintro e w1 ⟨rfl, hB2⟩
                have HX := Lib.hid ((CellR.made w R).below hB2)
                clear hB2
                go_wp2_with fail
                refine (HO.out _ HX.out.b).mono ?_
                rintro e w2 ⟨rfl, hB2⟩
                replace HX := Lib.hid (HX.out.below hB2)
                clear hB2
                go_wp2_with (first | (refine wpList_load_at_g (by simp [Region.wanted, yielded, Act.put]) 40 (.tmp 4) rfl ⟨w.heap.size, 0, none⟩ rfl (.agg R) (load_box HX.out.at_ HRi.out) ?_))
                refine (HGC.out _).mono ?_
                rintro e w2 ⟨rfl, hB2⟩
                replace HX := Lib.hid (HX.out.below hB2)
                clear hB2
                go_wp2_with fail
                refine (HP.out _ HX.out.b).mono ?_
                rintro e w2 ⟨rfl, hB2⟩
                replace HX := Lib.hid (HX.out.below hB2)
                clear hB2
                go_wp2_with (first | (refine wpList_load_at_g (by simp [Region.wanted, yielded, Act.put]) 40 (.tmp 4) rfl ⟨w.heap.size, 0, none⟩ rfl (.agg R) (load_box HX.out.at_ HRi.out) ?_))
                refine (HPC.out _ HX.out.b).mono ?_
                rintro e w2 ⟨rfl, hB2⟩
                replace HX := Lib.hid (HX.out.below hB2)
                clear hB2
                go_wp2_with fail
                refine (HGC2.out _).mono ?_
                rintro e w2 ⟨hB2, p2, n2, k2, rfl, hn2, hL2⟩
                replace HX := Lib.hid (HX.out.below hB2)
                clear hB2
                have HSC := Lib.hid (fun w5 (h5 : Below w2.heap.size w2 w5) => sameCommit_any root root L L note note p2 pp n2 ln k2 pc w5 H32.out H32.out hn2 Hln.out (hL2.below h5) (HLv.out.below (HX.out.below h5).b))
                rw [decide_eq_true ⟨rfl, rfl, rfl⟩] at HSC
                unfold cmV at HSC
                rw [← HR.out] at HSC
                clear hn2 hL2
                go_wp2_with (first | (refine wpList_store_rowTo rfl 40 (.tmp 13) (.tmp 66) rfl rfl w2.heap.size (cmL root (.slice p2 n2 k2) note).toArray rfl rfl 40 _ (heap_alloc_new w2 _) (cm_size H32.out) (by rw [cm_len34 H32.out]; rfl) (cm_one _ _ _ _ _) ?_; refine box_absL (boxL_made w2 _ 40 (cmL root (.slice p2 n2 k2) note)) ?_; intro w4 hbx; replace HX := Lib.hid (HX.out.below hbx.b); have HBX := Lib.hid hbx; clear hbx) | (refine wpList_load_at_g (by simp [Region.wanted, yielded, Act.put]) 40 (.tmp 13) rfl ⟨w2.heap.size, 0, none⟩ rfl (.agg (cmL root (.slice p2 n2 k2) note).toArray) (run_loadVar_mid (P := Tryd.prog) w4 w2.heap.size 0 40 (cmL root (.slice p2 n2 k2) note) _ (fun j y hj => by rw [Nat.zero_add]; exact HBX.out.r j y hj) Tryd.underlying40 rfl (by have := cm_size (pv := .slice p2 n2 k2) (note := note) H32.out; rwa [List.size_toArray] at this)) ?_) | (refine wpList_load_at_g (by simp [Region.wanted, yielded, Act.put]) 40 (.tmp 4) rfl ⟨w.heap.size, 0, none⟩ rfl (.agg R) (load_box HX.out.at_ HRi.out) ?_))
                refine (HSC.out _ HBX.out.b).mono ?_
                rintro e w5 ⟨rfl, hB2⟩
                replace HX := Lib.hid (HX.out.below hB2)
                clear hB2
                go_wp2_with fail
                refine (HGt.out _ HX.out.b).mono ?_
                rintro e w2 ⟨hB2, rfl⟩
                replace HX := Lib.hid (HX.out.below hB2)
                clear hB2
                go_wp2_with fail
                refine (HGc.out _).mono ?_
                rintro e w2 ⟨hB2, p2, n2, k2, rfl, hn2, hL2⟩
                replace HX := Lib.hid (HX.out.below hB2)
                clear hB2
                go_wp2_with (first | (refine wpList_store_rowTo rfl 40 (.tmp 19) (.tmp 98) rfl rfl w2.heap.size _ rfl rfl 40 _ (heap_alloc_new w2 _) (cm_size (by decide)) (by rw [cm_len34 (by decide)]; rfl) (cm_one _ _ _ _ _) ?_; refine box_absL (boxL_made w2 _ 40 _) ?_; intro w4 hbx; replace HX := Lib.hid (HX.out.below hbx.b); clear hbx))
                go_ret
                exact ⟨rfl, HX.out.b⟩
              | some c0 =>
                rw [hgc] at HGc
                have Hpb := Lib.hid (put_commit_back hgc)
                obtain ⟨hc1, hc2, hc3, hc4⟩ := getC_some hgc
                unfold goodC at hc1
                simp only [Bool.and_eq_true, decide_eq_true_eq] at hc1
                have Hc32 := Lib.hid hc3
                have Hcn := Lib.hid (show c0.2.2.size ≤ 1048576 by omega)
                have Hcl := Lib.hid (show c0.2.1.length ≤ 1048576 by omega)
                clear hgc hc1 hc2 hc3 hc4
                go_enter Tryd.func5, Tryd.ntmps5
                go_wp2_with fail
                refine (HA.out _ ((Below.refl _ _).alloc (Nat.le_refl _) _)).mono ?_
                rintro e w1 ⟨rfl, hB2⟩
                have HX := Lib.hid ((CellR.made w R).below hB2)
                clear hB2
                go_wp2_with fail
                refine (HO.out _ HX.out.b).mono ?_
                rintro e w2 ⟨rfl, hB2⟩
                replace HX := Lib.hid (HX.out.below hB2)
                clear hB2
                go_wp2_with (first | (refine wpList_load_at_g (by simp [Region.wanted, yielded, Act.put]) 40 (.tmp 4) rfl ⟨w.heap.size, 0, none⟩ rfl (.agg R) (load_box HX.out.at_ HRi.out) ?_))
                refine (HGC.out _).mono ?_
                rintro e w2 ⟨rfl, hB2⟩
                replace HX := Lib.hid (HX.out.below hB2)
                clear hB2
                go_wp2_with fail
                refine (HP.out _ HX.out.b).mono ?_
                rintro e w2 ⟨rfl, hB2⟩
                replace HX := Lib.hid (HX.out.below hB2)
                clear hB2
                go_wp2_with (first | (refine wpList_load_at_g (by simp [Region.wanted, yielded, Act.put]) 40 (.tmp 4) rfl ⟨w.heap.size, 0, none⟩ rfl (.agg R) (load_box HX.out.at_ HRi.out) ?_))
                refine (HPC.out _ HX.out.b).mono ?_
                rintro e w2 ⟨rfl, hB2⟩
                replace HX := Lib.hid (HX.out.below hB2)
                clear hB2
                go_wp2_with fail
                refine (HGC2.out _).mono ?_
                rintro e w2 ⟨hB2, p2, n2, k2, rfl, hn2, hL2⟩
                replace HX := Lib.hid (HX.out.below hB2)
                clear hB2
                have HSC := Lib.hid (fun w5 (h5 : Below w2.heap.size w2 w5) => sameCommit_any root root L L note note p2 pp n2 ln k2 pc w5 H32.out H32.out hn2 Hln.out (hL2.below h5) (HLv.out.below (HX.out.below h5).b))
                rw [decide_eq_true ⟨rfl, rfl, rfl⟩] at HSC
                unfold cmV at HSC
                rw [← HR.out] at HSC
                clear hn2 hL2
                go_wp2_with (first | (refine wpList_store_rowTo rfl 40 (.tmp 13) (.tmp 66) rfl rfl w2.heap.size (cmL root (.slice p2 n2 k2) note).toArray rfl rfl 40 _ (heap_alloc_new w2 _) (cm_size H32.out) (by rw [cm_len34 H32.out]; rfl) (cm_one _ _ _ _ _) ?_; refine box_absL (boxL_made w2 _ 40 (cmL root (.slice p2 n2 k2) note)) ?_; intro w4 hbx; replace HX := Lib.hid (HX.out.below hbx.b); have HBX := Lib.hid hbx; clear hbx) | (refine wpList_load_at_g (by simp [Region.wanted, yielded, Act.put]) 40 (.tmp 13) rfl ⟨w2.heap.size, 0, none⟩ rfl (.agg (cmL root (.slice p2 n2 k2) note).toArray) (run_loadVar_mid (P := Tryd.prog) w4 w2.heap.size 0 40 (cmL root (.slice p2 n2 k2) note) _ (fun j y hj => by rw [Nat.zero_add]; exact HBX.out.r j y hj) Tryd.underlying40 rfl (by have := cm_size (pv := .slice p2 n2 k2) (note := note) H32.out; rwa [List.size_toArray] at this)) ?_) | (refine wpList_load_at_g (by simp [Region.wanted, yielded, Act.put]) 40 (.tmp 4) rfl ⟨w.heap.size, 0, none⟩ rfl (.agg R) (load_box HX.out.at_ HRi.out) ?_))
                refine (HSC.out _ HBX.out.b).mono ?_
                rintro e w5 ⟨rfl, hB2⟩
                replace HX := Lib.hid (HX.out.below hB2)
                clear hB2
                go_wp2_with fail
                refine (HGt.out _ HX.out.b).mono ?_
                rintro e w2 ⟨hB2, rfl⟩
                replace HX := Lib.hid (HX.out.below hB2)
                clear hB2
                go_wp2_with fail
                refine (HGc.out _).mono ?_
                rintro e w2 ⟨hB2, p2, n2, k2, rfl, hn2, hL2⟩
                replace HX := Lib.hid (HX.out.below hB2)
                clear hB2
                have HPb := Lib.hid (fun w5 (h5 : Below w2.heap.size w2 w5) => putCommit_any c0.1 c0.2.1 c0.2.2 p2 n2 k2 w5 Hc32.out hn2 (hL2.below h5) Hcn.out (by rw [hn2]; exact Hcl.out))
                rw [Hpb.out] at HPb
                clear hn2 hL2
                go_wp2_with (first | (refine wpList_store_rowTo rfl 40 (.tmp 19) (.tmp 98) rfl rfl w2.heap.size (cmL c0.1 (.slice p2 n2 k2) c0.2.2).toArray rfl rfl 40 _ (heap_alloc_new w2 _) (cm_size Hc32.out) (by rw [cm_len34 Hc32.out]; rfl) (cm_one _ _ _ _ _) ?_; refine box_absL (boxL_made w2 _ 40 (cmL c0.1 (.slice p2 n2 k2) c0.2.2)) ?_; intro w4 hbx; replace HX := Lib.hid (HX.out.below hbx.b); have HBX := Lib.hid hbx; clear hbx) | (refine wpList_load_mid rfl 40 (.tmp 19) rfl w2.heap.size 0 rfl (cmL c0.1 (.slice p2 n2 k2) c0.2.2) _ (fun j y hj => by rw [Nat.zero_add]; exact HBX.out.r j y hj) Tryd.underlying40 rfl (by have := cm_size (pv := .slice p2 n2 k2) (note := c0.2.2) Hc32.out; rwa [List.size_toArray] at this) ?_))
                refine (HPb.out _ HBX.out.b).mono ?_
                rintro e w5 ⟨rfl, hB2⟩
                replace HX := Lib.hid (HX.out.below hB2)
                clear hB2
                go_wp2_with fail
                go_ret
                exact ⟨rfl, HX.out.b⟩
            | some x0 =>
              rw [hgt] at HGt
              have Hpt := Lib.hid (put_tree_back hgt)
              obtain ⟨_, _, hx1, hx2⟩ := getT_some hgt
              have Hx1 := Lib.hid (show ∀ y ∈ x0, y.1.size ≤ 65536 from fun y hy => by have := (hx1 y hy).2; omega)
              have Hx2 := Lib.hid (show x0.length ≤ 65536 by omega)
              clear hgt hx1 hx2
              cases hgc : getC b with
              | none =>
                rw [hgc] at HGc
                clear hgc
                go_enter Tryd.func5, Tryd.ntmps5
                go_wp2_with fail
                refine (HA.out _ ((Below.refl _ _).alloc (Nat.le_refl _) _)).mono ?_
                rintro e w1 ⟨rfl, hB2⟩
                have HX := Lib.hid ((CellR.made w R).below hB2)
                clear hB2
                go_wp2_with fail
                refine (HO.out _ HX.out.b).mono ?_
                rintro e w2 ⟨rfl, hB2⟩
                replace HX := Lib.hid (HX.out.below hB2)
                clear hB2
                go_wp2_with (first | (refine wpList_load_at_g (by simp [Region.wanted, yielded, Act.put]) 40 (.tmp 4) rfl ⟨w.heap.size, 0, none⟩ rfl (.agg R) (load_box HX.out.at_ HRi.out) ?_))
                refine (HGC.out _).mono ?_
                rintro e w2 ⟨rfl, hB2⟩
                replace HX := Lib.hid (HX.out.below hB2)
                clear hB2
                go_wp2_with fail
                refine (HP.out _ HX.out.b).mono ?_
                rintro e w2 ⟨rfl, hB2⟩
                replace HX := Lib.hid (HX.out.below hB2)
                clear hB2
                go_wp2_with (first | (refine wpList_load_at_g (by simp [Region.wanted, yielded, Act.put]) 40 (.tmp 4) rfl ⟨w.heap.size, 0, none⟩ rfl (.agg R) (load_box HX.out.at_ HRi.out) ?_))
                refine (HPC.out _ HX.out.b).mono ?_
                rintro e w2 ⟨rfl, hB2⟩
                replace HX := Lib.hid (HX.out.below hB2)
                clear hB2
                go_wp2_with fail
                refine (HGC2.out _).mono ?_
                rintro e w2 ⟨hB2, p2, n2, k2, rfl, hn2, hL2⟩
                replace HX := Lib.hid (HX.out.below hB2)
                clear hB2
                have HSC := Lib.hid (fun w5 (h5 : Below w2.heap.size w2 w5) => sameCommit_any root root L L note note p2 pp n2 ln k2 pc w5 H32.out H32.out hn2 Hln.out (hL2.below h5) (HLv.out.below (HX.out.below h5).b))
                rw [decide_eq_true ⟨rfl, rfl, rfl⟩] at HSC
                unfold cmV at HSC
                rw [← HR.out] at HSC
                clear hn2 hL2
                go_wp2_with (first | (refine wpList_store_rowTo rfl 40 (.tmp 13) (.tmp 66) rfl rfl w2.heap.size (cmL root (.slice p2 n2 k2) note).toArray rfl rfl 40 _ (heap_alloc_new w2 _) (cm_size H32.out) (by rw [cm_len34 H32.out]; rfl) (cm_one _ _ _ _ _) ?_; refine box_absL (boxL_made w2 _ 40 (cmL root (.slice p2 n2 k2) note)) ?_; intro w4 hbx; replace HX := Lib.hid (HX.out.below hbx.b); have HBX := Lib.hid hbx; clear hbx) | (refine wpList_load_at_g (by simp [Region.wanted, yielded, Act.put]) 40 (.tmp 13) rfl ⟨w2.heap.size, 0, none⟩ rfl (.agg (cmL root (.slice p2 n2 k2) note).toArray) (run_loadVar_mid (P := Tryd.prog) w4 w2.heap.size 0 40 (cmL root (.slice p2 n2 k2) note) _ (fun j y hj => by rw [Nat.zero_add]; exact HBX.out.r j y hj) Tryd.underlying40 rfl (by have := cm_size (pv := .slice p2 n2 k2) (note := note) H32.out; rwa [List.size_toArray] at this)) ?_) | (refine wpList_load_at_g (by simp [Region.wanted, yielded, Act.put]) 40 (.tmp 4) rfl ⟨w.heap.size, 0, none⟩ rfl (.agg R) (load_box HX.out.at_ HRi.out) ?_))
                refine (HSC.out _ HBX.out.b).mono ?_
                rintro e w5 ⟨rfl, hB2⟩
                replace HX := Lib.hid (HX.out.below hB2)
                clear hB2
                go_wp2_with fail
                refine (HGt.out _ HX.out.b).mono ?_
                rintro e w2 ⟨hB2, x, rfl, hx⟩
                have HPt := Lib.hid (putTree_any x x0 w2 (HM.out.below (HX.out.below hB2).b) hx Hx1.out Hx2.out)
                rw [Hpt.out] at HPt
                replace HX := Lib.hid (HX.out.below hB2)
                clear hB2
                go_wp2_with fail
                refine (HPt.out).mono ?_
                rintro e w2 ⟨rfl, hB2⟩
                replace HX := Lib.hid (HX.out.below hB2)
                clear hB2
                go_wp2_with fail
                refine (HGc.out _).mono ?_
                rintro e w2 ⟨hB2, p2, n2, k2, rfl, hn2, hL2⟩
                replace HX := Lib.hid (HX.out.below hB2)
                clear hB2
                go_wp2_with (first | (refine wpList_store_rowTo rfl 40 (.tmp 19) (.tmp 98) rfl rfl w2.heap.size _ rfl rfl 40 _ (heap_alloc_new w2 _) (cm_size (by decide)) (by rw [cm_len34 (by decide)]; rfl) (cm_one _ _ _ _ _) ?_; refine box_absL (boxL_made w2 _ 40 _) ?_; intro w4 hbx; replace HX := Lib.hid (HX.out.below hbx.b); clear hbx))
                go_ret
                exact ⟨rfl, HX.out.b⟩
              | some c0 =>
                rw [hgc] at HGc
                have Hpb := Lib.hid (put_commit_back hgc)
                obtain ⟨hc1, hc2, hc3, hc4⟩ := getC_some hgc
                unfold goodC at hc1
                simp only [Bool.and_eq_true, decide_eq_true_eq] at hc1
                have Hc32 := Lib.hid hc3
                have Hcn := Lib.hid (show c0.2.2.size ≤ 1048576 by omega)
                have Hcl := Lib.hid (show c0.2.1.length ≤ 1048576 by omega)
                clear hgc hc1 hc2 hc3 hc4
                go_enter Tryd.func5, Tryd.ntmps5
                go_wp2_with fail
                refine (HA.out _ ((Below.refl _ _).alloc (Nat.le_refl _) _)).mono ?_
                rintro e w1 ⟨rfl, hB2⟩
                have HX := Lib.hid ((CellR.made w R).below hB2)
                clear hB2
                go_wp2_with fail
                refine (HO.out _ HX.out.b).mono ?_
                rintro e w2 ⟨rfl, hB2⟩
                replace HX := Lib.hid (HX.out.below hB2)
                clear hB2
                go_wp2_with (first | (refine wpList_load_at_g (by simp [Region.wanted, yielded, Act.put]) 40 (.tmp 4) rfl ⟨w.heap.size, 0, none⟩ rfl (.agg R) (load_box HX.out.at_ HRi.out) ?_))
                refine (HGC.out _).mono ?_
                rintro e w2 ⟨rfl, hB2⟩
                replace HX := Lib.hid (HX.out.below hB2)
                clear hB2
                go_wp2_with fail
                refine (HP.out _ HX.out.b).mono ?_
                rintro e w2 ⟨rfl, hB2⟩
                replace HX := Lib.hid (HX.out.below hB2)
                clear hB2
                go_wp2_with (first | (refine wpList_load_at_g (by simp [Region.wanted, yielded, Act.put]) 40 (.tmp 4) rfl ⟨w.heap.size, 0, none⟩ rfl (.agg R) (load_box HX.out.at_ HRi.out) ?_))
                refine (HPC.out _ HX.out.b).mono ?_
                rintro e w2 ⟨rfl, hB2⟩
                replace HX := Lib.hid (HX.out.below hB2)
                clear hB2
                go_wp2_with fail
                refine (HGC2.out _).mono ?_
                rintro e w2 ⟨hB2, p2, n2, k2, rfl, hn2, hL2⟩
                replace HX := Lib.hid (HX.out.below hB2)
                clear hB2
                have HSC := Lib.hid (fun w5 (h5 : Below w2.heap.size w2 w5) => sameCommit_any root root L L note note p2 pp n2 ln k2 pc w5 H32.out H32.out hn2 Hln.out (hL2.below h5) (HLv.out.below (HX.out.below h5).b))
                rw [decide_eq_true ⟨rfl, rfl, rfl⟩] at HSC
                unfold cmV at HSC
                rw [← HR.out] at HSC
                clear hn2 hL2
                go_wp2_with (first | (refine wpList_store_rowTo rfl 40 (.tmp 13) (.tmp 66) rfl rfl w2.heap.size (cmL root (.slice p2 n2 k2) note).toArray rfl rfl 40 _ (heap_alloc_new w2 _) (cm_size H32.out) (by rw [cm_len34 H32.out]; rfl) (cm_one _ _ _ _ _) ?_; refine box_absL (boxL_made w2 _ 40 (cmL root (.slice p2 n2 k2) note)) ?_; intro w4 hbx; replace HX := Lib.hid (HX.out.below hbx.b); have HBX := Lib.hid hbx; clear hbx) | (refine wpList_load_at_g (by simp [Region.wanted, yielded, Act.put]) 40 (.tmp 13) rfl ⟨w2.heap.size, 0, none⟩ rfl (.agg (cmL root (.slice p2 n2 k2) note).toArray) (run_loadVar_mid (P := Tryd.prog) w4 w2.heap.size 0 40 (cmL root (.slice p2 n2 k2) note) _ (fun j y hj => by rw [Nat.zero_add]; exact HBX.out.r j y hj) Tryd.underlying40 rfl (by have := cm_size (pv := .slice p2 n2 k2) (note := note) H32.out; rwa [List.size_toArray] at this)) ?_) | (refine wpList_load_at_g (by simp [Region.wanted, yielded, Act.put]) 40 (.tmp 4) rfl ⟨w.heap.size, 0, none⟩ rfl (.agg R) (load_box HX.out.at_ HRi.out) ?_))
                refine (HSC.out _ HBX.out.b).mono ?_
                rintro e w5 ⟨rfl, hB2⟩
                replace HX := Lib.hid (HX.out.below hB2)
                clear hB2
                go_wp2_with fail
                refine (HGt.out _ HX.out.b).mono ?_
                rintro e w2 ⟨hB2, x, rfl, hx⟩
                have HPt := Lib.hid (putTree_any x x0 w2 (HM.out.below (HX.out.below hB2).b) hx Hx1.out Hx2.out)
                rw [Hpt.out] at HPt
                replace HX := Lib.hid (HX.out.below hB2)
                clear hB2
                go_wp2_with fail
                refine (HPt.out).mono ?_
                rintro e w2 ⟨rfl, hB2⟩
                replace HX := Lib.hid (HX.out.below hB2)
                clear hB2
                go_wp2_with fail
                refine (HGc.out _).mono ?_
                rintro e w2 ⟨hB2, p2, n2, k2, rfl, hn2, hL2⟩
                replace HX := Lib.hid (HX.out.below hB2)
                clear hB2
                have HPb := Lib.hid (fun w5 (h5 : Below w2.heap.size w2 w5) => putCommit_any c0.1 c0.2.1 c0.2.2 p2 n2 k2 w5 Hc32.out hn2 (hL2.below h5) Hcn.out (by rw [hn2]; exact Hcl.out))
                rw [Hpb.out] at HPb
                clear hn2 hL2
                go_wp2_with (first | (refine wpList_store_rowTo rfl 40 (.tmp 19) (.tmp 98) rfl rfl w2.heap.size (cmL c0.1 (.slice p2 n2 k2) c0.2.2).toArray rfl rfl 40 _ (heap_alloc_new w2 _) (cm_size Hc32.out) (by rw [cm_len34 Hc32.out]; rfl) (cm_one _ _ _ _ _) ?_; refine box_absL (boxL_made w2 _ 40 (cmL c0.1 (.slice p2 n2 k2) c0.2.2)) ?_; intro w4 hbx; replace HX := Lib.hid (HX.out.below hbx.b); have HBX := Lib.hid hbx; clear hbx) | (refine wpList_load_mid rfl 40 (.tmp 19) rfl w2.heap.size 0 rfl (cmL c0.1 (.slice p2 n2 k2) c0.2.2) _ (fun j y hj => by rw [Nat.zero_add]; exact HBX.out.r j y hj) Tryd.underlying40 rfl (by have := cm_size (pv := .slice p2 n2 k2) (note := c0.2.2) Hc32.out; rwa [List.size_toArray] at this) ?_))
                refine (HPb.out _ HBX.out.b).mono ?_
                rintro e w5 ⟨rfl, hB2⟩
                replace HX := Lib.hid (HX.out.below hB2)
                clear hB2
                go_wp2_with fail
                go_ret
                exact ⟨rfl, HX.out.b⟩
        | true =>
          have hp0 : putR a = .tuple #[.string (treeB a), .int .i64 0] := by unfold putR; rw [hgd0]; rfl
          rw [hp0] at HP
          have hg2 := back_tree hgd0 hz h32e hna
          have HGT2 := Lib.hid (fun w1 (h1 : Below w.heap.size w w1) => getTree_any (treeB a) w1 (HM.out.below h1) (treeB_size hz h32e hna))
          rw [hg2] at HGT2
          generalize treeB a = TB at *
          clear hgd0 hp0 hg2 hz h32e
          cases hgd : goodC L note with
          | false =>
            have hpc : putC root L note = .tuple #[.string ⟨#[]⟩, .int .i64 1] := by unfold putC; rw [hgd]; rfl
            rw [hpc] at HPC
            clear hgd hpc
            cases hgt : getT b with
            | none =>
              rw [hgt] at HGt
              clear hgt
              cases hgc : getC b with
              | none =>
                rw [hgc] at HGc
                clear hgc
                go_enter Tryd.func5, Tryd.ntmps5
                go_wp2_with fail
                refine (HA.out _ ((Below.refl _ _).alloc (Nat.le_refl _) _)).mono ?_
                rintro e w1 ⟨rfl, hB2⟩
                have HX := Lib.hid ((CellR.made w R).below hB2)
                clear hB2
                go_wp2_with fail
                refine (HO.out _ HX.out.b).mono ?_
                rintro e w2 ⟨rfl, hB2⟩
                replace HX := Lib.hid (HX.out.below hB2)
                clear hB2
                go_wp2_with (first | (refine wpList_load_at_g (by simp [Region.wanted, yielded, Act.put]) 40 (.tmp 4) rfl ⟨w.heap.size, 0, none⟩ rfl (.agg R) (load_box HX.out.at_ HRi.out) ?_))
                refine (HGC.out _).mono ?_
                rintro e w2 ⟨rfl, hB2⟩
                replace HX := Lib.hid (HX.out.below hB2)
                clear hB2
                go_wp2_with fail
                refine (HP.out _ HX.out.b).mono ?_
                rintro e w2 ⟨rfl, hB2⟩
                replace HX := Lib.hid (HX.out.below hB2)
                clear hB2
                go_wp2_with fail
                refine (HGT2.out _ HX.out.b).mono ?_
                rintro e w2 ⟨hB2, x, rfl, hx⟩
                have HS := Lib.hid (sameTree_any x v a a w2 hx (Hv.out.below (HX.out.below hB2).b))
                rw [decide_eq_true rfl] at HS
                replace HX := Lib.hid (HX.out.below hB2)
                clear hB2
                go_wp2_with fail
                refine (HS.out).mono ?_
                rintro e w2 ⟨rfl, hB2⟩
                replace HX := Lib.hid (HX.out.below hB2)
                clear hB2
                go_wp2_with (first | (refine wpList_load_at_g (by simp [Region.wanted, yielded, Act.put]) 40 (.tmp 4) rfl ⟨w.heap.size, 0, none⟩ rfl (.agg R) (load_box HX.out.at_ HRi.out) ?_))
                refine (HPC.out _ HX.out.b).mono ?_
                rintro e w2 ⟨rfl, hB2⟩
                replace HX := Lib.hid (HX.out.below hB2)
                clear hB2
                go_wp2_with fail
                refine (HGt.out _ HX.out.b).mono ?_
                rintro e w2 ⟨hB2, rfl⟩
                replace HX := Lib.hid (HX.out.below hB2)
                clear hB2
                go_wp2_with fail
                refine (HGc.out _).mono ?_
                rintro e w2 ⟨hB2, p2, n2, k2, rfl, hn2, hL2⟩
                replace HX := Lib.hid (HX.out.below hB2)
                clear hB2
                go_wp2_with (first | (refine wpList_store_rowTo rfl 40 (.tmp 19) (.tmp 98) rfl rfl w2.heap.size _ rfl rfl 40 _ (heap_alloc_new w2 _) (cm_size (by decide)) (by rw [cm_len34 (by decide)]; rfl) (cm_one _ _ _ _ _) ?_; refine box_absL (boxL_made w2 _ 40 _) ?_; intro w4 hbx; replace HX := Lib.hid (HX.out.below hbx.b); clear hbx))
                go_ret
                exact ⟨rfl, HX.out.b⟩
              | some c0 =>
                rw [hgc] at HGc
                have Hpb := Lib.hid (put_commit_back hgc)
                obtain ⟨hc1, hc2, hc3, hc4⟩ := getC_some hgc
                unfold goodC at hc1
                simp only [Bool.and_eq_true, decide_eq_true_eq] at hc1
                have Hc32 := Lib.hid hc3
                have Hcn := Lib.hid (show c0.2.2.size ≤ 1048576 by omega)
                have Hcl := Lib.hid (show c0.2.1.length ≤ 1048576 by omega)
                clear hgc hc1 hc2 hc3 hc4
                go_enter Tryd.func5, Tryd.ntmps5
                go_wp2_with fail
                refine (HA.out _ ((Below.refl _ _).alloc (Nat.le_refl _) _)).mono ?_
                rintro e w1 ⟨rfl, hB2⟩
                have HX := Lib.hid ((CellR.made w R).below hB2)
                clear hB2
                go_wp2_with fail
                refine (HO.out _ HX.out.b).mono ?_
                rintro e w2 ⟨rfl, hB2⟩
                replace HX := Lib.hid (HX.out.below hB2)
                clear hB2
                go_wp2_with (first | (refine wpList_load_at_g (by simp [Region.wanted, yielded, Act.put]) 40 (.tmp 4) rfl ⟨w.heap.size, 0, none⟩ rfl (.agg R) (load_box HX.out.at_ HRi.out) ?_))
                refine (HGC.out _).mono ?_
                rintro e w2 ⟨rfl, hB2⟩
                replace HX := Lib.hid (HX.out.below hB2)
                clear hB2
                go_wp2_with fail
                refine (HP.out _ HX.out.b).mono ?_
                rintro e w2 ⟨rfl, hB2⟩
                replace HX := Lib.hid (HX.out.below hB2)
                clear hB2
                go_wp2_with fail
                refine (HGT2.out _ HX.out.b).mono ?_
                rintro e w2 ⟨hB2, x, rfl, hx⟩
                have HS := Lib.hid (sameTree_any x v a a w2 hx (Hv.out.below (HX.out.below hB2).b))
                rw [decide_eq_true rfl] at HS
                replace HX := Lib.hid (HX.out.below hB2)
                clear hB2
                go_wp2_with fail
                refine (HS.out).mono ?_
                rintro e w2 ⟨rfl, hB2⟩
                replace HX := Lib.hid (HX.out.below hB2)
                clear hB2
                go_wp2_with (first | (refine wpList_load_at_g (by simp [Region.wanted, yielded, Act.put]) 40 (.tmp 4) rfl ⟨w.heap.size, 0, none⟩ rfl (.agg R) (load_box HX.out.at_ HRi.out) ?_))
                refine (HPC.out _ HX.out.b).mono ?_
                rintro e w2 ⟨rfl, hB2⟩
                replace HX := Lib.hid (HX.out.below hB2)
                clear hB2
                go_wp2_with fail
                refine (HGt.out _ HX.out.b).mono ?_
                rintro e w2 ⟨hB2, rfl⟩
                replace HX := Lib.hid (HX.out.below hB2)
                clear hB2
                go_wp2_with fail
                refine (HGc.out _).mono ?_
                rintro e w2 ⟨hB2, p2, n2, k2, rfl, hn2, hL2⟩
                replace HX := Lib.hid (HX.out.below hB2)
                clear hB2
                have HPb := Lib.hid (fun w5 (h5 : Below w2.heap.size w2 w5) => putCommit_any c0.1 c0.2.1 c0.2.2 p2 n2 k2 w5 Hc32.out hn2 (hL2.below h5) Hcn.out (by rw [hn2]; exact Hcl.out))
                rw [Hpb.out] at HPb
                clear hn2 hL2
                go_wp2_with (first | (refine wpList_store_rowTo rfl 40 (.tmp 19) (.tmp 98) rfl rfl w2.heap.size (cmL c0.1 (.slice p2 n2 k2) c0.2.2).toArray rfl rfl 40 _ (heap_alloc_new w2 _) (cm_size Hc32.out) (by rw [cm_len34 Hc32.out]; rfl) (cm_one _ _ _ _ _) ?_; refine box_absL (boxL_made w2 _ 40 (cmL c0.1 (.slice p2 n2 k2) c0.2.2)) ?_; intro w4 hbx; replace HX := Lib.hid (HX.out.below hbx.b); have HBX := Lib.hid hbx; clear hbx) | (refine wpList_load_mid rfl 40 (.tmp 19) rfl w2.heap.size 0 rfl (cmL c0.1 (.slice p2 n2 k2) c0.2.2) _ (fun j y hj => by rw [Nat.zero_add]; exact HBX.out.r j y hj) Tryd.underlying40 rfl (by have := cm_size (pv := .slice p2 n2 k2) (note := c0.2.2) Hc32.out; rwa [List.size_toArray] at this) ?_))
                refine (HPb.out _ HBX.out.b).mono ?_
                rintro e w5 ⟨rfl, hB2⟩
                replace HX := Lib.hid (HX.out.below hB2)
                clear hB2
                go_wp2_with fail
                go_ret
                exact ⟨rfl, HX.out.b⟩
            | some x0 =>
              rw [hgt] at HGt
              have Hpt := Lib.hid (put_tree_back hgt)
              obtain ⟨_, _, hx1, hx2⟩ := getT_some hgt
              have Hx1 := Lib.hid (show ∀ y ∈ x0, y.1.size ≤ 65536 from fun y hy => by have := (hx1 y hy).2; omega)
              have Hx2 := Lib.hid (show x0.length ≤ 65536 by omega)
              clear hgt hx1 hx2
              cases hgc : getC b with
              | none =>
                rw [hgc] at HGc
                clear hgc
                go_enter Tryd.func5, Tryd.ntmps5
                go_wp2_with fail
                refine (HA.out _ ((Below.refl _ _).alloc (Nat.le_refl _) _)).mono ?_
                rintro e w1 ⟨rfl, hB2⟩
                have HX := Lib.hid ((CellR.made w R).below hB2)
                clear hB2
                go_wp2_with fail
                refine (HO.out _ HX.out.b).mono ?_
                rintro e w2 ⟨rfl, hB2⟩
                replace HX := Lib.hid (HX.out.below hB2)
                clear hB2
                go_wp2_with (first | (refine wpList_load_at_g (by simp [Region.wanted, yielded, Act.put]) 40 (.tmp 4) rfl ⟨w.heap.size, 0, none⟩ rfl (.agg R) (load_box HX.out.at_ HRi.out) ?_))
                refine (HGC.out _).mono ?_
                rintro e w2 ⟨rfl, hB2⟩
                replace HX := Lib.hid (HX.out.below hB2)
                clear hB2
                go_wp2_with fail
                refine (HP.out _ HX.out.b).mono ?_
                rintro e w2 ⟨rfl, hB2⟩
                replace HX := Lib.hid (HX.out.below hB2)
                clear hB2
                go_wp2_with fail
                refine (HGT2.out _ HX.out.b).mono ?_
                rintro e w2 ⟨hB2, x, rfl, hx⟩
                have HS := Lib.hid (sameTree_any x v a a w2 hx (Hv.out.below (HX.out.below hB2).b))
                rw [decide_eq_true rfl] at HS
                replace HX := Lib.hid (HX.out.below hB2)
                clear hB2
                go_wp2_with fail
                refine (HS.out).mono ?_
                rintro e w2 ⟨rfl, hB2⟩
                replace HX := Lib.hid (HX.out.below hB2)
                clear hB2
                go_wp2_with (first | (refine wpList_load_at_g (by simp [Region.wanted, yielded, Act.put]) 40 (.tmp 4) rfl ⟨w.heap.size, 0, none⟩ rfl (.agg R) (load_box HX.out.at_ HRi.out) ?_))
                refine (HPC.out _ HX.out.b).mono ?_
                rintro e w2 ⟨rfl, hB2⟩
                replace HX := Lib.hid (HX.out.below hB2)
                clear hB2
                go_wp2_with fail
                refine (HGt.out _ HX.out.b).mono ?_
                rintro e w2 ⟨hB2, x, rfl, hx⟩
                have HPt := Lib.hid (putTree_any x x0 w2 (HM.out.below (HX.out.below hB2).b) hx Hx1.out Hx2.out)
                rw [Hpt.out] at HPt
                replace HX := Lib.hid (HX.out.below hB2)
                clear hB2
                go_wp2_with fail
                refine (HPt.out).mono ?_
                rintro e w2 ⟨rfl, hB2⟩
                replace HX := Lib.hid (HX.out.below hB2)
                clear hB2
                go_wp2_with fail
                refine (HGc.out _).mono ?_
                rintro e w2 ⟨hB2, p2, n2, k2, rfl, hn2, hL2⟩
                replace HX := Lib.hid (HX.out.below hB2)
                clear hB2
                go_wp2_with (first | (refine wpList_store_rowTo rfl 40 (.tmp 19) (.tmp 98) rfl rfl w2.heap.size _ rfl rfl 40 _ (heap_alloc_new w2 _) (cm_size (by decide)) (by rw [cm_len34 (by decide)]; rfl) (cm_one _ _ _ _ _) ?_; refine box_absL (boxL_made w2 _ 40 _) ?_; intro w4 hbx; replace HX := Lib.hid (HX.out.below hbx.b); clear hbx))
                go_ret
                exact ⟨rfl, HX.out.b⟩
              | some c0 =>
                rw [hgc] at HGc
                have Hpb := Lib.hid (put_commit_back hgc)
                obtain ⟨hc1, hc2, hc3, hc4⟩ := getC_some hgc
                unfold goodC at hc1
                simp only [Bool.and_eq_true, decide_eq_true_eq] at hc1
                have Hc32 := Lib.hid hc3
                have Hcn := Lib.hid (show c0.2.2.size ≤ 1048576 by omega)
                have Hcl := Lib.hid (show c0.2.1.length ≤ 1048576 by omega)
                clear hgc hc1 hc2 hc3 hc4
                go_enter Tryd.func5, Tryd.ntmps5
                go_wp2_with fail
                refine (HA.out _ ((Below.refl _ _).alloc (Nat.le_refl _) _)).mono ?_
                rintro e w1 ⟨rfl, hB2⟩
                have HX := Lib.hid ((CellR.made w R).below hB2)
                clear hB2
                go_wp2_with fail
                refine (HO.out _ HX.out.b).mono ?_
                rintro e w2 ⟨rfl, hB2⟩
                replace HX := Lib.hid (HX.out.below hB2)
                clear hB2
                go_wp2_with (first | (refine wpList_load_at_g (by simp [Region.wanted, yielded, Act.put]) 40 (.tmp 4) rfl ⟨w.heap.size, 0, none⟩ rfl (.agg R) (load_box HX.out.at_ HRi.out) ?_))
                refine (HGC.out _).mono ?_
                rintro e w2 ⟨rfl, hB2⟩
                replace HX := Lib.hid (HX.out.below hB2)
                clear hB2
                go_wp2_with fail
                refine (HP.out _ HX.out.b).mono ?_
                rintro e w2 ⟨rfl, hB2⟩
                replace HX := Lib.hid (HX.out.below hB2)
                clear hB2
                go_wp2_with fail
                refine (HGT2.out _ HX.out.b).mono ?_
                rintro e w2 ⟨hB2, x, rfl, hx⟩
                have HS := Lib.hid (sameTree_any x v a a w2 hx (Hv.out.below (HX.out.below hB2).b))
                rw [decide_eq_true rfl] at HS
                replace HX := Lib.hid (HX.out.below hB2)
                clear hB2
                go_wp2_with fail
                refine (HS.out).mono ?_
                rintro e w2 ⟨rfl, hB2⟩
                replace HX := Lib.hid (HX.out.below hB2)
                clear hB2
                go_wp2_with (first | (refine wpList_load_at_g (by simp [Region.wanted, yielded, Act.put]) 40 (.tmp 4) rfl ⟨w.heap.size, 0, none⟩ rfl (.agg R) (load_box HX.out.at_ HRi.out) ?_))
                refine (HPC.out _ HX.out.b).mono ?_
                rintro e w2 ⟨rfl, hB2⟩
                replace HX := Lib.hid (HX.out.below hB2)
                clear hB2
                go_wp2_with fail
                refine (HGt.out _ HX.out.b).mono ?_
                rintro e w2 ⟨hB2, x, rfl, hx⟩
                have HPt := Lib.hid (putTree_any x x0 w2 (HM.out.below (HX.out.below hB2).b) hx Hx1.out Hx2.out)
                rw [Hpt.out] at HPt
                replace HX := Lib.hid (HX.out.below hB2)
                clear hB2
                go_wp2_with fail
                refine (HPt.out).mono ?_
                rintro e w2 ⟨rfl, hB2⟩
                replace HX := Lib.hid (HX.out.below hB2)
                clear hB2
                go_wp2_with fail
                refine (HGc.out _).mono ?_
                rintro e w2 ⟨hB2, p2, n2, k2, rfl, hn2, hL2⟩
                replace HX := Lib.hid (HX.out.below hB2)
                clear hB2
                have HPb := Lib.hid (fun w5 (h5 : Below w2.heap.size w2 w5) => putCommit_any c0.1 c0.2.1 c0.2.2 p2 n2 k2 w5 Hc32.out hn2 (hL2.below h5) Hcn.out (by rw [hn2]; exact Hcl.out))
                rw [Hpb.out] at HPb
                clear hn2 hL2
                go_wp2_with (first | (refine wpList_store_rowTo rfl 40 (.tmp 19) (.tmp 98) rfl rfl w2.heap.size (cmL c0.1 (.slice p2 n2 k2) c0.2.2).toArray rfl rfl 40 _ (heap_alloc_new w2 _) (cm_size Hc32.out) (by rw [cm_len34 Hc32.out]; rfl) (cm_one _ _ _ _ _) ?_; refine box_absL (boxL_made w2 _ 40 (cmL c0.1 (.slice p2 n2 k2) c0.2.2)) ?_; intro w4 hbx; replace HX := Lib.hid (HX.out.below hbx.b); have HBX := Lib.hid hbx; clear hbx) | (refine wpList_load_mid rfl 40 (.tmp 19) rfl w2.heap.size 0 rfl (cmL c0.1 (.slice p2 n2 k2) c0.2.2) _ (fun j y hj => by rw [Nat.zero_add]; exact HBX.out.r j y hj) Tryd.underlying40 rfl (by have := cm_size (pv := .slice p2 n2 k2) (note := c0.2.2) Hc32.out; rwa [List.size_toArray] at this) ?_))
                refine (HPb.out _ HBX.out.b).mono ?_
                rintro e w5 ⟨rfl, hB2⟩
                replace HX := Lib.hid (HX.out.below hB2)
                clear hB2
                go_wp2_with fail
                go_ret
                exact ⟨rfl, HX.out.b⟩
          | true =>
            have hpc : putC root L note = .tuple #[.string (commitB root L note), .int .i64 0] := by unfold putC; rw [hgd]; rfl
            rw [hpc] at HPC
            have hg2 := getC_put hgd H32.out HL32.out
            have HGC2 := Lib.hid (fun w1 => getCommit_any (commitB root L note) w1 (commitB_size H32.out HL32.out (by omega) (by have := Hln.out; omega)))
            rw [hg2] at HGC2
            generalize commitB root L note = CB at *
            clear hgd hpc hg2
            cases hgt : getT b with
            | none =>
              rw [hgt] at HGt
              clear hgt
              cases hgc : getC b with
              | none =>
                rw [hgc] at HGc
                clear hgc
                go_enter Tryd.func5, Tryd.ntmps5
                go_wp2_with fail
                refine (HA.out _ ((Below.refl _ _).alloc (Nat.le_refl _) _)).mono ?_
                rintro e w1 ⟨rfl, hB2⟩
                have HX := Lib.hid ((CellR.made w R).below hB2)
                clear hB2
                go_wp2_with fail
                refine (HO.out _ HX.out.b).mono ?_
                rintro e w2 ⟨rfl, hB2⟩
                replace HX := Lib.hid (HX.out.below hB2)
                clear hB2
                go_wp2_with (first | (refine wpList_load_at_g (by simp [Region.wanted, yielded, Act.put]) 40 (.tmp 4) rfl ⟨w.heap.size, 0, none⟩ rfl (.agg R) (load_box HX.out.at_ HRi.out) ?_))
                refine (HGC.out _).mono ?_
                rintro e w2 ⟨rfl, hB2⟩
                replace HX := Lib.hid (HX.out.below hB2)
                clear hB2
                go_wp2_with fail
                refine (HP.out _ HX.out.b).mono ?_
                rintro e w2 ⟨rfl, hB2⟩
                replace HX := Lib.hid (HX.out.below hB2)
                clear hB2
                go_wp2_with fail
                refine (HGT2.out _ HX.out.b).mono ?_
                rintro e w2 ⟨hB2, x, rfl, hx⟩
                have HS := Lib.hid (sameTree_any x v a a w2 hx (Hv.out.below (HX.out.below hB2).b))
                rw [decide_eq_true rfl] at HS
                replace HX := Lib.hid (HX.out.below hB2)
                clear hB2
                go_wp2_with fail
                refine (HS.out).mono ?_
                rintro e w2 ⟨rfl, hB2⟩
                replace HX := Lib.hid (HX.out.below hB2)
                clear hB2
                go_wp2_with (first | (refine wpList_load_at_g (by simp [Region.wanted, yielded, Act.put]) 40 (.tmp 4) rfl ⟨w.heap.size, 0, none⟩ rfl (.agg R) (load_box HX.out.at_ HRi.out) ?_))
                refine (HPC.out _ HX.out.b).mono ?_
                rintro e w2 ⟨rfl, hB2⟩
                replace HX := Lib.hid (HX.out.below hB2)
                clear hB2
                go_wp2_with fail
                refine (HGC2.out _).mono ?_
                rintro e w2 ⟨hB2, p2, n2, k2, rfl, hn2, hL2⟩
                replace HX := Lib.hid (HX.out.below hB2)
                clear hB2
                have HSC := Lib.hid (fun w5 (h5 : Below w2.heap.size w2 w5) => sameCommit_any root root L L note note p2 pp n2 ln k2 pc w5 H32.out H32.out hn2 Hln.out (hL2.below h5) (HLv.out.below (HX.out.below h5).b))
                rw [decide_eq_true ⟨rfl, rfl, rfl⟩] at HSC
                unfold cmV at HSC
                rw [← HR.out] at HSC
                clear hn2 hL2
                go_wp2_with (first | (refine wpList_store_rowTo rfl 40 (.tmp 13) (.tmp 66) rfl rfl w2.heap.size (cmL root (.slice p2 n2 k2) note).toArray rfl rfl 40 _ (heap_alloc_new w2 _) (cm_size H32.out) (by rw [cm_len34 H32.out]; rfl) (cm_one _ _ _ _ _) ?_; refine box_absL (boxL_made w2 _ 40 (cmL root (.slice p2 n2 k2) note)) ?_; intro w4 hbx; replace HX := Lib.hid (HX.out.below hbx.b); have HBX := Lib.hid hbx; clear hbx) | (refine wpList_load_at_g (by simp [Region.wanted, yielded, Act.put]) 40 (.tmp 13) rfl ⟨w2.heap.size, 0, none⟩ rfl (.agg (cmL root (.slice p2 n2 k2) note).toArray) (run_loadVar_mid (P := Tryd.prog) w4 w2.heap.size 0 40 (cmL root (.slice p2 n2 k2) note) _ (fun j y hj => by rw [Nat.zero_add]; exact HBX.out.r j y hj) Tryd.underlying40 rfl (by have := cm_size (pv := .slice p2 n2 k2) (note := note) H32.out; rwa [List.size_toArray] at this)) ?_) | (refine wpList_load_at_g (by simp [Region.wanted, yielded, Act.put]) 40 (.tmp 4) rfl ⟨w.heap.size, 0, none⟩ rfl (.agg R) (load_box HX.out.at_ HRi.out) ?_))
                refine (HSC.out _ HBX.out.b).mono ?_
                rintro e w5 ⟨rfl, hB2⟩
                replace HX := Lib.hid (HX.out.below hB2)
                clear hB2
                go_wp2_with fail
                refine (HGt.out _ HX.out.b).mono ?_
                rintro e w2 ⟨hB2, rfl⟩
                replace HX := Lib.hid (HX.out.below hB2)
                clear hB2
                go_wp2_with fail
                refine (HGc.out _).mono ?_
                rintro e w2 ⟨hB2, p2, n2, k2, rfl, hn2, hL2⟩
                replace HX := Lib.hid (HX.out.below hB2)
                clear hB2
                go_wp2_with (first | (refine wpList_store_rowTo rfl 40 (.tmp 19) (.tmp 98) rfl rfl w2.heap.size _ rfl rfl 40 _ (heap_alloc_new w2 _) (cm_size (by decide)) (by rw [cm_len34 (by decide)]; rfl) (cm_one _ _ _ _ _) ?_; refine box_absL (boxL_made w2 _ 40 _) ?_; intro w4 hbx; replace HX := Lib.hid (HX.out.below hbx.b); clear hbx))
                go_ret
                exact ⟨rfl, HX.out.b⟩
              | some c0 =>
                rw [hgc] at HGc
                have Hpb := Lib.hid (put_commit_back hgc)
                obtain ⟨hc1, hc2, hc3, hc4⟩ := getC_some hgc
                unfold goodC at hc1
                simp only [Bool.and_eq_true, decide_eq_true_eq] at hc1
                have Hc32 := Lib.hid hc3
                have Hcn := Lib.hid (show c0.2.2.size ≤ 1048576 by omega)
                have Hcl := Lib.hid (show c0.2.1.length ≤ 1048576 by omega)
                clear hgc hc1 hc2 hc3 hc4
                go_enter Tryd.func5, Tryd.ntmps5
                go_wp2_with fail
                refine (HA.out _ ((Below.refl _ _).alloc (Nat.le_refl _) _)).mono ?_
                rintro e w1 ⟨rfl, hB2⟩
                have HX := Lib.hid ((CellR.made w R).below hB2)
                clear hB2
                go_wp2_with fail
                refine (HO.out _ HX.out.b).mono ?_
                rintro e w2 ⟨rfl, hB2⟩
                replace HX := Lib.hid (HX.out.below hB2)
                clear hB2
                go_wp2_with (first | (refine wpList_load_at_g (by simp [Region.wanted, yielded, Act.put]) 40 (.tmp 4) rfl ⟨w.heap.size, 0, none⟩ rfl (.agg R) (load_box HX.out.at_ HRi.out) ?_))
                refine (HGC.out _).mono ?_
                rintro e w2 ⟨rfl, hB2⟩
                replace HX := Lib.hid (HX.out.below hB2)
                clear hB2
                go_wp2_with fail
                refine (HP.out _ HX.out.b).mono ?_
                rintro e w2 ⟨rfl, hB2⟩
                replace HX := Lib.hid (HX.out.below hB2)
                clear hB2
                go_wp2_with fail
                refine (HGT2.out _ HX.out.b).mono ?_
                rintro e w2 ⟨hB2, x, rfl, hx⟩
                have HS := Lib.hid (sameTree_any x v a a w2 hx (Hv.out.below (HX.out.below hB2).b))
                rw [decide_eq_true rfl] at HS
                replace HX := Lib.hid (HX.out.below hB2)
                clear hB2
                go_wp2_with fail
                refine (HS.out).mono ?_
                rintro e w2 ⟨rfl, hB2⟩
                replace HX := Lib.hid (HX.out.below hB2)
                clear hB2
                go_wp2_with (first | (refine wpList_load_at_g (by simp [Region.wanted, yielded, Act.put]) 40 (.tmp 4) rfl ⟨w.heap.size, 0, none⟩ rfl (.agg R) (load_box HX.out.at_ HRi.out) ?_))
                refine (HPC.out _ HX.out.b).mono ?_
                rintro e w2 ⟨rfl, hB2⟩
                replace HX := Lib.hid (HX.out.below hB2)
                clear hB2
                go_wp2_with fail
                refine (HGC2.out _).mono ?_
                rintro e w2 ⟨hB2, p2, n2, k2, rfl, hn2, hL2⟩
                replace HX := Lib.hid (HX.out.below hB2)
                clear hB2
                have HSC := Lib.hid (fun w5 (h5 : Below w2.heap.size w2 w5) => sameCommit_any root root L L note note p2 pp n2 ln k2 pc w5 H32.out H32.out hn2 Hln.out (hL2.below h5) (HLv.out.below (HX.out.below h5).b))
                rw [decide_eq_true ⟨rfl, rfl, rfl⟩] at HSC
                unfold cmV at HSC
                rw [← HR.out] at HSC
                clear hn2 hL2
                go_wp2_with (first | (refine wpList_store_rowTo rfl 40 (.tmp 13) (.tmp 66) rfl rfl w2.heap.size (cmL root (.slice p2 n2 k2) note).toArray rfl rfl 40 _ (heap_alloc_new w2 _) (cm_size H32.out) (by rw [cm_len34 H32.out]; rfl) (cm_one _ _ _ _ _) ?_; refine box_absL (boxL_made w2 _ 40 (cmL root (.slice p2 n2 k2) note)) ?_; intro w4 hbx; replace HX := Lib.hid (HX.out.below hbx.b); have HBX := Lib.hid hbx; clear hbx) | (refine wpList_load_at_g (by simp [Region.wanted, yielded, Act.put]) 40 (.tmp 13) rfl ⟨w2.heap.size, 0, none⟩ rfl (.agg (cmL root (.slice p2 n2 k2) note).toArray) (run_loadVar_mid (P := Tryd.prog) w4 w2.heap.size 0 40 (cmL root (.slice p2 n2 k2) note) _ (fun j y hj => by rw [Nat.zero_add]; exact HBX.out.r j y hj) Tryd.underlying40 rfl (by have := cm_size (pv := .slice p2 n2 k2) (note := note) H32.out; rwa [List.size_toArray] at this)) ?_) | (refine wpList_load_at_g (by simp [Region.wanted, yielded, Act.put]) 40 (.tmp 4) rfl ⟨w.heap.size, 0, none⟩ rfl (.agg R) (load_box HX.out.at_ HRi.out) ?_))
                refine (HSC.out _ HBX.out.b).mono ?_
                rintro e w5 ⟨rfl, hB2⟩
                replace HX := Lib.hid (HX.out.below hB2)
                clear hB2
                go_wp2_with fail
                refine (HGt.out _ HX.out.b).mono ?_
                rintro e w2 ⟨hB2, rfl⟩
                replace HX := Lib.hid (HX.out.below hB2)
                clear hB2
                go_wp2_with fail
                refine (HGc.out _).mono ?_
                rintro e w2 ⟨hB2, p2, n2, k2, rfl, hn2, hL2⟩
                replace HX := Lib.hid (HX.out.below hB2)
                clear hB2
                have HPb := Lib.hid (fun w5 (h5 : Below w2.heap.size w2 w5) => putCommit_any c0.1 c0.2.1 c0.2.2 p2 n2 k2 w5 Hc32.out hn2 (hL2.below h5) Hcn.out (by rw [hn2]; exact Hcl.out))
                rw [Hpb.out] at HPb
                clear hn2 hL2
                go_wp2_with (first | (refine wpList_store_rowTo rfl 40 (.tmp 19) (.tmp 98) rfl rfl w2.heap.size (cmL c0.1 (.slice p2 n2 k2) c0.2.2).toArray rfl rfl 40 _ (heap_alloc_new w2 _) (cm_size Hc32.out) (by rw [cm_len34 Hc32.out]; rfl) (cm_one _ _ _ _ _) ?_; refine box_absL (boxL_made w2 _ 40 (cmL c0.1 (.slice p2 n2 k2) c0.2.2)) ?_; intro w4 hbx; replace HX := Lib.hid (HX.out.below hbx.b); have HBX := Lib.hid hbx; clear hbx) | (refine wpList_load_mid rfl 40 (.tmp 19) rfl w2.heap.size 0 rfl (cmL c0.1 (.slice p2 n2 k2) c0.2.2) _ (fun j y hj => by rw [Nat.zero_add]; exact HBX.out.r j y hj) Tryd.underlying40 rfl (by have := cm_size (pv := .slice p2 n2 k2) (note := c0.2.2) Hc32.out; rwa [List.size_toArray] at this) ?_))
                refine (HPb.out _ HBX.out.b).mono ?_
                rintro e w5 ⟨rfl, hB2⟩
                replace HX := Lib.hid (HX.out.below hB2)
                clear hB2
                go_wp2_with fail
                go_ret
                exact ⟨rfl, HX.out.b⟩
            | some x0 =>
              rw [hgt] at HGt
              have Hpt := Lib.hid (put_tree_back hgt)
              obtain ⟨_, _, hx1, hx2⟩ := getT_some hgt
              have Hx1 := Lib.hid (show ∀ y ∈ x0, y.1.size ≤ 65536 from fun y hy => by have := (hx1 y hy).2; omega)
              have Hx2 := Lib.hid (show x0.length ≤ 65536 by omega)
              clear hgt hx1 hx2
              cases hgc : getC b with
              | none =>
                rw [hgc] at HGc
                clear hgc
                go_enter Tryd.func5, Tryd.ntmps5
                go_wp2_with fail
                refine (HA.out _ ((Below.refl _ _).alloc (Nat.le_refl _) _)).mono ?_
                rintro e w1 ⟨rfl, hB2⟩
                have HX := Lib.hid ((CellR.made w R).below hB2)
                clear hB2
                go_wp2_with fail
                refine (HO.out _ HX.out.b).mono ?_
                rintro e w2 ⟨rfl, hB2⟩
                replace HX := Lib.hid (HX.out.below hB2)
                clear hB2
                go_wp2_with (first | (refine wpList_load_at_g (by simp [Region.wanted, yielded, Act.put]) 40 (.tmp 4) rfl ⟨w.heap.size, 0, none⟩ rfl (.agg R) (load_box HX.out.at_ HRi.out) ?_))
                refine (HGC.out _).mono ?_
                rintro e w2 ⟨rfl, hB2⟩
                replace HX := Lib.hid (HX.out.below hB2)
                clear hB2
                go_wp2_with fail
                refine (HP.out _ HX.out.b).mono ?_
                rintro e w2 ⟨rfl, hB2⟩
                replace HX := Lib.hid (HX.out.below hB2)
                clear hB2
                go_wp2_with fail
                refine (HGT2.out _ HX.out.b).mono ?_
                rintro e w2 ⟨hB2, x, rfl, hx⟩
                have HS := Lib.hid (sameTree_any x v a a w2 hx (Hv.out.below (HX.out.below hB2).b))
                rw [decide_eq_true rfl] at HS
                replace HX := Lib.hid (HX.out.below hB2)
                clear hB2
                go_wp2_with fail
                refine (HS.out).mono ?_
                rintro e w2 ⟨rfl, hB2⟩
                replace HX := Lib.hid (HX.out.below hB2)
                clear hB2
                go_wp2_with (first | (refine wpList_load_at_g (by simp [Region.wanted, yielded, Act.put]) 40 (.tmp 4) rfl ⟨w.heap.size, 0, none⟩ rfl (.agg R) (load_box HX.out.at_ HRi.out) ?_))
                refine (HPC.out _ HX.out.b).mono ?_
                rintro e w2 ⟨rfl, hB2⟩
                replace HX := Lib.hid (HX.out.below hB2)
                clear hB2
                go_wp2_with fail
                refine (HGC2.out _).mono ?_
                rintro e w2 ⟨hB2, p2, n2, k2, rfl, hn2, hL2⟩
                replace HX := Lib.hid (HX.out.below hB2)
                clear hB2
                have HSC := Lib.hid (fun w5 (h5 : Below w2.heap.size w2 w5) => sameCommit_any root root L L note note p2 pp n2 ln k2 pc w5 H32.out H32.out hn2 Hln.out (hL2.below h5) (HLv.out.below (HX.out.below h5).b))
                rw [decide_eq_true ⟨rfl, rfl, rfl⟩] at HSC
                unfold cmV at HSC
                rw [← HR.out] at HSC
                clear hn2 hL2
                go_wp2_with (first | (refine wpList_store_rowTo rfl 40 (.tmp 13) (.tmp 66) rfl rfl w2.heap.size (cmL root (.slice p2 n2 k2) note).toArray rfl rfl 40 _ (heap_alloc_new w2 _) (cm_size H32.out) (by rw [cm_len34 H32.out]; rfl) (cm_one _ _ _ _ _) ?_; refine box_absL (boxL_made w2 _ 40 (cmL root (.slice p2 n2 k2) note)) ?_; intro w4 hbx; replace HX := Lib.hid (HX.out.below hbx.b); have HBX := Lib.hid hbx; clear hbx) | (refine wpList_load_at_g (by simp [Region.wanted, yielded, Act.put]) 40 (.tmp 13) rfl ⟨w2.heap.size, 0, none⟩ rfl (.agg (cmL root (.slice p2 n2 k2) note).toArray) (run_loadVar_mid (P := Tryd.prog) w4 w2.heap.size 0 40 (cmL root (.slice p2 n2 k2) note) _ (fun j y hj => by rw [Nat.zero_add]; exact HBX.out.r j y hj) Tryd.underlying40 rfl (by have := cm_size (pv := .slice p2 n2 k2) (note := note) H32.out; rwa [List.size_toArray] at this)) ?_) | (refine wpList_load_at_g (by simp [Region.wanted, yielded, Act.put]) 40 (.tmp 4) rfl ⟨w.heap.size, 0, none⟩ rfl (.agg R) (load_box HX.out.at_ HRi.out) ?_))
                refine (HSC.out _ HBX.out.b).mono ?_
                rintro e w5 ⟨rfl, hB2⟩
                replace HX := Lib.hid (HX.out.below hB2)
                clear hB2
                go_wp2_with fail
                refine (HGt.out _ HX.out.b).mono ?_
                rintro e w2 ⟨hB2, x, rfl, hx⟩
                have HPt := Lib.hid (putTree_any x x0 w2 (HM.out.below (HX.out.below hB2).b) hx Hx1.out Hx2.out)
                rw [Hpt.out] at HPt
                replace HX := Lib.hid (HX.out.below hB2)
                clear hB2
                go_wp2_with fail
                refine (HPt.out).mono ?_
                rintro e w2 ⟨rfl, hB2⟩
                replace HX := Lib.hid (HX.out.below hB2)
                clear hB2
                go_wp2_with fail
                refine (HGc.out _).mono ?_
                rintro e w2 ⟨hB2, p2, n2, k2, rfl, hn2, hL2⟩
                replace HX := Lib.hid (HX.out.below hB2)
                clear hB2
                go_wp2_with (first | (refine wpList_store_rowTo rfl 40 (.tmp 19) (.tmp 98) rfl rfl w2.heap.size _ rfl rfl 40 _ (heap_alloc_new w2 _) (cm_size (by decide)) (by rw [cm_len34 (by decide)]; rfl) (cm_one _ _ _ _ _) ?_; refine box_absL (boxL_made w2 _ 40 _) ?_; intro w4 hbx; replace HX := Lib.hid (HX.out.below hbx.b); clear hbx))
                go_ret
                exact ⟨rfl, HX.out.b⟩
              | some c0 =>
                rw [hgc] at HGc
                have Hpb := Lib.hid (put_commit_back hgc)
                obtain ⟨hc1, hc2, hc3, hc4⟩ := getC_some hgc
                unfold goodC at hc1
                simp only [Bool.and_eq_true, decide_eq_true_eq] at hc1
                have Hc32 := Lib.hid hc3
                have Hcn := Lib.hid (show c0.2.2.size ≤ 1048576 by omega)
                have Hcl := Lib.hid (show c0.2.1.length ≤ 1048576 by omega)
                clear hgc hc1 hc2 hc3 hc4
                go_enter Tryd.func5, Tryd.ntmps5
                go_wp2_with fail
                refine (HA.out _ ((Below.refl _ _).alloc (Nat.le_refl _) _)).mono ?_
                rintro e w1 ⟨rfl, hB2⟩
                have HX := Lib.hid ((CellR.made w R).below hB2)
                clear hB2
                go_wp2_with fail
                refine (HO.out _ HX.out.b).mono ?_
                rintro e w2 ⟨rfl, hB2⟩
                replace HX := Lib.hid (HX.out.below hB2)
                clear hB2
                go_wp2_with (first | (refine wpList_load_at_g (by simp [Region.wanted, yielded, Act.put]) 40 (.tmp 4) rfl ⟨w.heap.size, 0, none⟩ rfl (.agg R) (load_box HX.out.at_ HRi.out) ?_))
                refine (HGC.out _).mono ?_
                rintro e w2 ⟨rfl, hB2⟩
                replace HX := Lib.hid (HX.out.below hB2)
                clear hB2
                go_wp2_with fail
                refine (HP.out _ HX.out.b).mono ?_
                rintro e w2 ⟨rfl, hB2⟩
                replace HX := Lib.hid (HX.out.below hB2)
                clear hB2
                go_wp2_with fail
                refine (HGT2.out _ HX.out.b).mono ?_
                rintro e w2 ⟨hB2, x, rfl, hx⟩
                have HS := Lib.hid (sameTree_any x v a a w2 hx (Hv.out.below (HX.out.below hB2).b))
                rw [decide_eq_true rfl] at HS
                replace HX := Lib.hid (HX.out.below hB2)
                clear hB2
                go_wp2_with fail
                refine (HS.out).mono ?_
                rintro e w2 ⟨rfl, hB2⟩
                replace HX := Lib.hid (HX.out.below hB2)
                clear hB2
                go_wp2_with (first | (refine wpList_load_at_g (by simp [Region.wanted, yielded, Act.put]) 40 (.tmp 4) rfl ⟨w.heap.size, 0, none⟩ rfl (.agg R) (load_box HX.out.at_ HRi.out) ?_))
                refine (HPC.out _ HX.out.b).mono ?_
                rintro e w2 ⟨rfl, hB2⟩
                replace HX := Lib.hid (HX.out.below hB2)
                clear hB2
                go_wp2_with fail
                refine (HGC2.out _).mono ?_
                rintro e w2 ⟨hB2, p2, n2, k2, rfl, hn2, hL2⟩
                replace HX := Lib.hid (HX.out.below hB2)
                clear hB2
                have HSC := Lib.hid (fun w5 (h5 : Below w2.heap.size w2 w5) => sameCommit_any root root L L note note p2 pp n2 ln k2 pc w5 H32.out H32.out hn2 Hln.out (hL2.below h5) (HLv.out.below (HX.out.below h5).b))
                rw [decide_eq_true ⟨rfl, rfl, rfl⟩] at HSC
                unfold cmV at HSC
                rw [← HR.out] at HSC
                clear hn2 hL2
                go_wp2_with (first | (refine wpList_store_rowTo rfl 40 (.tmp 13) (.tmp 66) rfl rfl w2.heap.size (cmL root (.slice p2 n2 k2) note).toArray rfl rfl 40 _ (heap_alloc_new w2 _) (cm_size H32.out) (by rw [cm_len34 H32.out]; rfl) (cm_one _ _ _ _ _) ?_; refine box_absL (boxL_made w2 _ 40 (cmL root (.slice p2 n2 k2) note)) ?_; intro w4 hbx; replace HX := Lib.hid (HX.out.below hbx.b); have HBX := Lib.hid hbx; clear hbx) | (refine wpList_load_at_g (by simp [Region.wanted, yielded, Act.put]) 40 (.tmp 13) rfl ⟨w2.heap.size, 0, none⟩ rfl (.agg (cmL root (.slice p2 n2 k2) note).toArray) (run_loadVar_mid (P := Tryd.prog) w4 w2.heap.size 0 40 (cmL root (.slice p2 n2 k2) note) _ (fun j y hj => by rw [Nat.zero_add]; exact HBX.out.r j y hj) Tryd.underlying40 rfl (by have := cm_size (pv := .slice p2 n2 k2) (note := note) H32.out; rwa [List.size_toArray] at this)) ?_) | (refine wpList_load_at_g (by simp [Region.wanted, yielded, Act.put]) 40 (.tmp 4) rfl ⟨w.heap.size, 0, none⟩ rfl (.agg R) (load_box HX.out.at_ HRi.out) ?_))
                refine (HSC.out _ HBX.out.b).mono ?_
                rintro e w5 ⟨rfl, hB2⟩
                replace HX := Lib.hid (HX.out.below hB2)
                clear hB2
                go_wp2_with fail
                refine (HGt.out _ HX.out.b).mono ?_
                rintro e w2 ⟨hB2, x, rfl, hx⟩
                have HPt := Lib.hid (putTree_any x x0 w2 (HM.out.below (HX.out.below hB2).b) hx Hx1.out Hx2.out)
                rw [Hpt.out] at HPt
                replace HX := Lib.hid (HX.out.below hB2)
                clear hB2
                go_wp2_with fail
                refine (HPt.out).mono ?_
                rintro e w2 ⟨rfl, hB2⟩
                replace HX := Lib.hid (HX.out.below hB2)
                clear hB2
                go_wp2_with fail
                refine (HGc.out _).mono ?_
                rintro e w2 ⟨hB2, p2, n2, k2, rfl, hn2, hL2⟩
                replace HX := Lib.hid (HX.out.below hB2)
                clear hB2
                have HPb := Lib.hid (fun w5 (h5 : Below w2.heap.size w2 w5) => putCommit_any c0.1 c0.2.1 c0.2.2 p2 n2 k2 w5 Hc32.out hn2 (hL2.below h5) Hcn.out (by rw [hn2]; exact Hcl.out))
                rw [Hpb.out] at HPb
                clear hn2 hL2
                go_wp2_with (first | (refine wpList_store_rowTo rfl 40 (.tmp 19) (.tmp 98) rfl rfl w2.heap.size (cmL c0.1 (.slice p2 n2 k2) c0.2.2).toArray rfl rfl 40 _ (heap_alloc_new w2 _) (cm_size Hc32.out) (by rw [cm_len34 Hc32.out]; rfl) (cm_one _ _ _ _ _) ?_; refine box_absL (boxL_made w2 _ 40 (cmL c0.1 (.slice p2 n2 k2) c0.2.2)) ?_; intro w4 hbx; replace HX := Lib.hid (HX.out.below hbx.b); have HBX := Lib.hid hbx; clear hbx) | (refine wpList_load_mid rfl 40 (.tmp 19) rfl w2.heap.size 0 rfl (cmL c0.1 (.slice p2 n2 k2) c0.2.2) _ (fun j y hj => by rw [Nat.zero_add]; exact HBX.out.r j y hj) Tryd.underlying40 rfl (by have := cm_size (pv := .slice p2 n2 k2) (note := c0.2.2) Hc32.out; rwa [List.size_toArray] at this) ?_))
                refine (HPb.out _ HBX.out.b).mono ?_
                rintro e w5 ⟨rfl, hB2⟩
                replace HX := Lib.hid (HX.out.below hB2)
                clear hB2
                go_wp2_with fail
                go_ret
                exact ⟨rfl, HX.out.b⟩
end Go.Proofs.YtdhaanaenklleaaDoor
namespace Go.Proofs.YtdhaanaenklleaaDoor
open Go.ChangeShapes Go.WideShapes Go.ChangeAt Go.RowKit
theorem back7_walk {w : World} {y : Option Addr} {len cap : Nat} {a : List Ent} {c : Array Value} {x : CmI} {b : ByteArray} (hM : MaxAt w) (ha : rowsR w 34 entR a (Value.slice y len cap).cells.toList) (hc : cmR w x (Value.agg c).cells.toList) (hb : b.size ≤ 140737488351232) :
    Calls Tryd.prog 5 #[.slice y len cap, .agg c, .string b] w (LawEnd w) := by
  have hv : Rows w 34 entR (.slice y len cap) a := by
    obtain ⟨v, e, h⟩ := ha
    have : [Value.slice y len cap] = [v] := e
    obtain rfl : Value.slice y len cap = v := by simpa using this
    exact h
  obtain ⟨p, n, k, e, hn, hL, hr, hs⟩ := cm_cells hc
  have e2 : c = (cmL x.1 (.slice p n k) x.2.2.1).toArray := by rw [← e]; rfl
  subst e2
  exact back7_any _ a x.1 x.2.1 x.2.2.1 b p n k w hM hv hr hn hL hs hb
end Go.Proofs.YtdhaanaenklleaaDoor
