/- A region that draws its order: each operation by what it yields: no order is gone through; Walks: a commit's bytes, read by the code; What the walk of the statement ObjectBack leans on; Walks: the statement ObjectBack; The walk of the statement ObjectBack, of cells. -/
import Derived.BigQuiet
import Derived.Below
import Derived.Test.YtdhaanaenklleaaGreatDoorXN5
namespace Go.Proofs.YtdhaanaenklleaaGreatDoor.K3
open Go.RowKit
set_option linter.unusedVariables false
set_option linter.unusedSimpArgs false

/-- What an operation leaves in its slot. -/
def sptr (o : Oper) : Option Tmp := match o.op with | .store _ (.tmp t) _ => some t | _ => none
def pval (a : Act) (o : Oper) : Value := match sptr o with | some t => a.tmps.getD t undef | none => undef
def dval (a : Act) (o : Oper) : Value := match o.dst with | some d => a.tmps.getD d undef | none => pval a o
/-- What an operation comes to. -/
def Out (P : Program) (o : Oper) (ρ : Operand → Value) (w : World) (φ : Value → World → Prop) : Prop :=
  match (execOp ρ o).run P w with
  | .ok (.value v) w' => φ v w'
  | .ok .skip w' => φ undef w'
  | .ok (.enter f args) w' => Calls P f args w' fun e w'' => ∃ v, e = .returned v ∧ φ v w''
  | _ => False
theorem Out.wp {P : Program} {o : Oper} {a : Act} {w : World} {φ : Value → World → Prop} {K : Act → World → Prop} {Q : Exit → Act → World → Prop} (h : Out P o a.eval w φ) (hK : ∀ v w', φ v w' → K (a.put o.dst v) w') : Oper.wp P o a w K Q := by
  unfold Out at h
  unfold Oper.wp
  generalize (execOp a.eval o).run P w = r at *
  cases r with
  | ok n w' =>
    cases n <;> simp only at h <;> simp only [Oper.upon]
    case value u => exact hK _ _ h
    case skip => exact hK _ _ h
    case enter f args =>
      exact h.mono fun e w'' ⟨v, he, hφ⟩ => by subst he; exact hK v w'' hφ
    all_goals exact h.elim
  | halt x w' => exact h.elim

/-- What comes ahead of an operation. -/
inductive Anc (ops : Array Oper) : Nat → Nat → Prop
  | edge {i : Nat} {o : Oper} {e : Edge} (hi : ops[i]? = some o) (he : e ∈ o.after) (hb : Region.binds .any e = true) : Anc ops i e.on
  | far {i k : Nat} {o : Oper} {e : Edge} (hi : ops[i]? = some o) (he : e ∈ o.after) (hb : Region.binds .any e = true) (h : Anc ops e.on k) : Anc ops i k
def maskOf (ms : List Nat) (l : List Edge) : Nat := l.foldr (fun e m => if Region.binds .any e then (m ||| 2 ^ e.on) ||| ms.getD e.on 0 else m) 0
def masks : List Oper → List Nat → List Nat
  | [], ms => ms
  | o :: r, ms => masks r (ms ++ [maskOf ms o.after.toList])
theorem maskOf_spec {ms : List Nat} {k : Nat} : ∀ {l : List Edge}, (maskOf ms l).testBit k = true → ∃ e ∈ l, Region.binds .any e = true ∧ (e.on = k ∨ (ms.getD e.on 0).testBit k = true) := by
  intro l
  induction l with
  | nil => intro h; simp [maskOf] at h
  | cons e r ih =>
    intro h
    have he : maskOf ms (e :: r) = if Region.binds .any e then (maskOf ms r ||| 2 ^ e.on) ||| ms.getD e.on 0 else maskOf ms r := rfl
    rw [he] at h
    split at h
    · rename_i hb
      rw [Nat.testBit_or, Nat.testBit_or, Nat.testBit_two_pow, Bool.or_eq_true, Bool.or_eq_true] at h
      rcases h with (h | h) | h
      · obtain ⟨e', h1, h2⟩ := ih h; exact ⟨e', List.mem_cons_of_mem _ h1, h2⟩
      · exact ⟨e, List.mem_cons_self, hb, .inl (of_decide_eq_true h)⟩
      · exact ⟨e, List.mem_cons_self, hb, .inr h⟩
    · obtain ⟨e', h1, h2⟩ := ih h; exact ⟨e', List.mem_cons_of_mem _ h1, h2⟩
theorem masks_spec (ops : Array Oper) : ∀ (l : List Oper) (ms : List Nat), (∀ j, l[j]? = ops[ms.length + j]?) → (∀ i k, (ms.getD i 0).testBit k = true → Anc ops i k) → ∀ i k, ((masks l ms).getD i 0).testBit k = true → Anc ops i k := by
  intro l
  induction l with
  | nil => intro ms _ h; exact h
  | cons o r ih =>
    intro ms hl h
    refine ih (ms ++ [maskOf ms o.after.toList]) (fun j => by have := hl (j + 1); simpa [Nat.add_assoc, Nat.add_comm 1 j] using this) ?_
    intro i k hk
    by_cases hi : i < ms.length
    · refine h i k ?_
      rw [List.getD_eq_getElem?_getD, List.getElem?_append_left hi] at hk
      rwa [List.getD_eq_getElem?_getD]
    · by_cases hi2 : i = ms.length
      · subst hi2
        rw [List.getD_eq_getElem?_getD, List.getElem?_append_right (Nat.le_refl _), Nat.sub_self] at hk
        obtain ⟨e, h1, h2, h3⟩ := maskOf_spec (show (maskOf ms o.after.toList).testBit k = true from hk)
        have ho : ops[ms.length]? = some o := by simpa using (hl 0).symm
        rcases h3 with h3 | h3
        · rw [← h3]; exact .edge ho (by simpa using h1) h2
        · exact .far ho (by simpa using h1) h2 (h _ _ h3)
      · rw [List.getD_eq_getElem?_getD, List.getElem?_eq_none (by simp; omega)] at hk
        simp at hk

def needs (ops : Array Oper) (o : Oper) : List Nat :=
  (o.after.toList.filter fun e => Region.binds .any e && (match ops[e.on]? with | some x => (match x.dst with | some d => (o.looksAt ops).contains d | none => false) | none => false)).map (·.on)
/-- The checks: s: 2 where what is yielded holds whatever new memory becomes; kd: 2 for an operation that writes memory made in the region; kl: whose yields it spoils. -/
def relB (l : List Oper) (s kd : List Nat) (kl : List (List Nat)) : Bool :=
  let ops := l.toArray
  let ms := masks l []
  let N := List.range l.length
  let at_ := fun i => (l[i]?.map (·.after.toList)).getD []
  let dst := fun i => (l[i]?.bind (·.dst))
  let nd := N.map fun i => (l[i]?.map (needs ops)).getD []
  (N.all fun i => N.all fun j => i == j || dst i == none || dst i != dst j) &&
  (N.all fun i => ((l[i]?.map (·.looksAt ops)).getD []).all fun t => N.all fun j => dst j != some t || (nd.getD i []).contains j || i == j || (ms.getD j 0).testBit i) &&
  (N.all fun i' => (kl.getD i' []).all fun k => N.all fun i => !(nd.getD i []).contains k || i == i' || (ms.getD i' 0).testBit i) &&
  (N.all fun i' => kd.getD i' 1 != 2 || N.all fun j => j == i' || (kl.getD i' []).contains j || s.getD j 1 == 2 || (ms.getD j 0).testBit i') &&
  (N.all fun i => (at_ i).all fun e => !Region.binds .any e || decide (e.on < i)) &&
  (N.all fun j => N.all fun i => (l[j]?.bind sptr) == none || dst i != (l[j]?.bind sptr) || (nd.getD j []).contains i)

def eff (a : Act) (o : Oper) (v : Value) : Value := match o.dst with | some _ => v | none => pval a o
/-- It comes ahead of each operation that writes. -/
def earlyB (l : List Oper) (kd : List Nat) (i : Nat) : Bool := (List.range l.length).all fun i' => kd.getD i' 1 != 2 || ((masks l []).getD i' 0).testBit i
section
variable {P : Program} {l : List Oper} {a0 : Act} {w0 : World} {N0 : Nat} {R : Nat → Value → World → Prop} {s kd : List Nat} {kl : List (List Nat)} {Q : Exit → Act → World → Prop}
/-- What is asked of an operation. -/
def Hop (P : Program) (l : List Oper) (a0 : Act) (w0 : World) (N0 : Nat) (R : Nat → Value → World → Prop) (kd : List Nat) (i : Nat) (o : Oper) : Prop :=
  ∀ (a : Act) (w : World), Below N0 w0 w → N0 ≤ w.heap.size → (earlyB l kd i = true → Below w0.heap.size w0 w) → (∀ k ∈ needs l.toArray o, ∀ ok, l[k]? = some ok → R k (dval a ok) w) →
    (∀ t ∈ o.looksAt l.toArray, (∀ k ∈ needs l.toArray o, ∀ ok, l[k]? = some ok → ok.dst ≠ some t) → a.tmps.getD t undef = a0.tmps.getD t undef) →
    if Region.wanted o (yielded l.toArray a.tmps) = true then Out P o a.eval w (fun v w' => R i (eff a o v) w' ∧ (if kd.getD i 1 = 2 then Below N0 w w' else Below w.heap.size w w')) else R i (eff a o undef) w
structure Inv (l : List Oper) (a0 : Act) (w0 : World) (N0 : Nat) (R : Nat → Value → World → Prop) (kd : List Nat) (kl : List (List Nat)) (listed : Array Bool) (a : Act) (w : World) : Prop where
  size : listed.size = l.length
  closed : ∀ j oj, l[j]? = some oj → listed.getD j false = true → ∀ e ∈ oj.after, Region.binds .any e = true → listed.getD e.on false = true
  below : Below N0 w0 w
  below2 : (∀ i, listed.getD i false = true → kd.getD i 1 ≠ 2) → Below w0.heap.size w0 w
  yields : ∀ j oj, l[j]? = some oj → listed.getD j false = true → (∀ i, listed.getD i false = true → j ∉ kl.getD i []) → R j (dval a oj) w
  frame : ∀ t, (∀ j oj, l[j]? = some oj → oj.dst = some t → listed.getD j false = false) → a.tmps.getD t undef = a0.tmps.getD t undef
  tmps : a.tmps.size = a0.tmps.size
  defers : a.defers = a0.defers
theorem Inv.anc {listed : Array Bool} {a : Act} {w : World} (h : Inv l a0 w0 N0 R kd kl listed a w) {i k : Nat} (ha : Anc l.toArray i k) : listed.getD i false = true → listed.getD k false = true := by
  induction ha with
  | edge hi he hb => intro hl; exact h.closed _ _ (by simpa using hi) hl _ he hb
  | far hi he hb _ ih => intro hl; exact ih (h.closed _ _ (by simpa using hi) hl _ he hb)
theorem put_get (a : Act) (dst : Option Tmp) (v : Value) (t : Tmp) (h : dst ≠ some t) : (a.put dst v).tmps.getD t undef = a.tmps.getD t undef := by
  cases dst with
  | none => rfl
  | some d =>
    have hne : d ≠ t := fun e => h (by rw [e])
    show (a.tmps.setIfInBounds d v).getD t undef = _
    simp [Array.getD_eq_getD_getElem?, Array.getElem?_setIfInBounds, hne]
theorem put_val (a : Act) (o : Oper) (v : Value) (hd : ∀ d, o.dst = some d → d < a.tmps.size) : dval (a.put o.dst v) o = eff a o v := by
  unfold dval eff
  cases hdd : o.dst with
  | none => rfl
  | some d =>
    show (a.tmps.setIfInBounds d v).getD d undef = v
    simp [Array.getD_eq_getD_getElem?, hd d hdd]
theorem put_size (a : Act) (dst : Option Tmp) (v : Value) : (a.put dst v).tmps.size = a.tmps.size := by
  cases dst with
  | none => rfl
  | some d => show (a.tmps.setIfInBounds d v).size = _; simp
theorem put_defers (a : Act) (dst : Option Tmp) (v : Value) : (a.put dst v).defers = a.defers := by cases dst <;> rfl
theorem set_ne {listed : Array Bool} {i j : Nat} (b : Bool) (h : i ≠ j) : (listed.setIfInBounds i true).getD j b = listed.getD j b := by
  simp [Array.getD_eq_getD_getElem?, Array.getElem?_setIfInBounds, h]
theorem set_eq {listed : Array Bool} {i : Nat} (h : i < listed.size) (b : Bool) : (listed.setIfInBounds i true).getD i b = true := by
  simp [Array.getD_eq_getD_getElem?, h]
theorem get_in {listed : Array Bool} {i : Nat} (h : listed.getD i true = false) : i < listed.size ∧ listed.getD i false = false := by
  rcases Nat.lt_or_ge i listed.size with h' | h'
  · simp [h'] at h ⊢; exact h
  · simp [Array.getElem?_eq_none h'] at h
theorem get_true {listed : Array Bool} {i : Nat} (h : i < listed.size) (h2 : listed.getD i true ≠ false) : listed.getD i false = true := by
  simp [h] at h2 ⊢; exact h2
/-- The checks, read. -/
structure Checks (l : List Oper) (s kd : List Nat) (kl : List (List Nat)) : Prop where
  c1 : ∀ (i j : Nat) (oi oj : Oper) (d : Tmp), l[i]? = some oi → l[j]? = some oj → oi.dst = some d → oj.dst = some d → i = j
  c2 : ∀ (i : Nat) (o : Oper) (t : Tmp) (j : Nat) (oj : Oper), l[i]? = some o → t ∈ o.looksAt l.toArray → l[j]? = some oj → oj.dst = some t → j ∈ needs l.toArray o ∨ i = j ∨ Anc l.toArray j i
  c3 : ∀ (i' k : Nat), i' < l.length → k ∈ kl.getD i' [] → ∀ (i : Nat) (o : Oper), l[i]? = some o → k ∈ needs l.toArray o → i = i' ∨ Anc l.toArray i' i
  c4 : ∀ (i' : Nat), i' < l.length → kd.getD i' 1 = 2 → ∀ (j : Nat) (oj : Oper), l[j]? = some oj → j = i' ∨ j ∈ kl.getD i' [] ∨ s.getD j 1 = 2 ∨ Anc l.toArray j i'
  c5 : ∀ (i : Nat) (o : Oper), l[i]? = some o → ∀ e ∈ o.after, Region.binds .any e = true → e.on < i
  c6 : ∀ (j i : Nat) (oj oi : Oper) (t : Tmp), l[j]? = some oj → l[i]? = some oi → sptr oj = some t → oi.dst = some t → i ∈ needs l.toArray oj
theorem relB_spec (h : relB l s kd kl = true) : Checks l s kd kl := by
  unfold relB at h
  simp only [Bool.and_eq_true, List.all_eq_true, List.mem_range, Bool.or_eq_true, beq_iff_eq, bne_iff_ne, decide_eq_true_iff, Bool.not_eq_true'] at h
  obtain ⟨⟨⟨⟨⟨h1, h2⟩, h3⟩, h4⟩, h5⟩, h6⟩ := h
  have hms := masks_spec l.toArray l [] (fun j => by simp) (fun i k hk => by simp at hk)
  have hnd : ∀ i o, l[i]? = some o → ((List.range l.length).map fun i => (l[i]?.map (needs l.toArray)).getD []).getD i [] = needs l.toArray o := by
    intro i o hi
    have hil := (List.getElem?_eq_some_iff.1 hi).1
    simp [List.getD, hil, (List.getElem?_eq_some_iff.1 hi).2]
  constructor
  · intro i j oi oj d hi hj hdi hdj
    have h := h1 i (List.getElem?_eq_some_iff.1 hi).1 j (List.getElem?_eq_some_iff.1 hj).1
    simp [hi, hj, hdi, hdj] at h
    exact h
  · intro i o t j oj hi ht hj hd
    have h := h2 i (List.getElem?_eq_some_iff.1 hi).1 t (by simpa [hi] using ht) j (List.getElem?_eq_some_iff.1 hj).1
    rw [hnd i o hi] at h
    rcases h with ((h | h) | h) | h
    · simp [hj, hd] at h
    · exact .inl (by simpa using h)
    · exact .inr (.inl h)
    · exact .inr (.inr (hms _ _ h))
  · intro i' k hi' hk i o hi hn
    have h := h3 i' hi' k hk i (List.getElem?_eq_some_iff.1 hi).1
    rw [hnd i o hi] at h
    rcases h with (h | h) | h
    · rw [List.contains_eq_mem, decide_eq_false_iff_not] at h; exact absurd hn h
    · exact .inl h
    · exact .inr (hms _ _ h)
  · intro i' hi' hkd j oj hj
    have h := h4 i' hi'
    rcases h with h | h
    · exact absurd hkd h
    · have h := h j (List.getElem?_eq_some_iff.1 hj).1
      rcases h with ((h | h) | h) | h
      · exact .inl h
      · exact .inr (.inl (by simpa using h))
      · exact .inr (.inr (.inl h))
      · exact .inr (.inr (.inr (hms _ _ h)))
  · intro i o hi e he hb
    have h := h5 i (List.getElem?_eq_some_iff.1 hi).1 e (by simpa [hi] using he)
    rcases h with h | h
    · rw [hb] at h; cases h
    · exact h
  · intro j i oj oi t hj hi hs hd
    have h := h6 j (List.getElem?_eq_some_iff.1 hj).1 i (List.getElem?_eq_some_iff.1 hi).1
    rw [hnd j oj hj] at h
    rcases h with (h | h) | h
    · simp [hj, hs] at h
    · simp [hj, hi, hs, hd] at h
    · simpa using h
theorem inv_step (hc : Checks l s kd kl) (hst1 : ∀ j v w w', R j v w → Below w.heap.size w w' → R j v w') (hst2 : ∀ j v w w', s.getD j 1 = 2 → R j v w → Below N0 w0 w → Below N0 w w' → R j v w')
    (hds : ∀ (i : Nat) (o : Oper) (d : Tmp), l[i]? = some o → o.dst = some d → d < a0.tmps.size) (hN : N0 ≤ w0.heap.size) {listed : Array Bool} {a : Act} {w w' : World} (h : Inv l a0 w0 N0 R kd kl listed a w) {i : Nat} {o : Oper} {v : Value} (hi : l[i]? = some o) (hun : listed.getD i true = false)
    (hre : ∀ e ∈ o.after, Region.binds .any e = true → listed.getD e.on false = true) (hR : R i (eff a o v) w') (hstep : if kd.getD i 1 = 2 then Below N0 w w' else Below w.heap.size w w') :
    Inv l a0 w0 N0 R kd kl (listed.setIfInBounds i true) (a.put o.dst v) w' := by
  obtain ⟨hin, hunf⟩ := get_in hun
  have hNw : N0 ≤ w.heap.size := Nat.le_trans hN h.below.size
  have hB : Below N0 w w' := by
    split at hstep
    · exact hstep
    · exact hstep.mono hNw
  refine ⟨by simpa using h.size, ?_, h.below.trans hB, fun hno => ?_, ?_, ?_, by rw [put_size]; exact h.tmps, by rw [put_defers]; exact h.defers⟩
  · intro j oj hj hl e he hb
    have hon : listed.getD e.on false = true := by
      by_cases hij : i = j
      · subst hij
        obtain rfl : o = oj := Option.some.inj (hi.symm.trans hj)
        exact hre e he hb
      · rw [set_ne false hij] at hl
        exact h.closed j oj hj hl e he hb
    by_cases hie : i = e.on
    · rw [← hie]; exact set_eq hin false
    · rw [set_ne false hie]; exact hon
  · have h1 : kd.getD i 1 ≠ 2 := hno i (set_eq hin false)
    have h2 : Below w0.heap.size w0 w := h.below2 fun k hk => hno k (by
      by_cases hik : i = k
      · rw [← hik]; exact set_eq hin false
      · rw [set_ne false hik]; exact hk)
    rw [if_neg h1] at hstep
    exact h2.trans (hstep.mono h2.size)
  · intro j oj hj hl hk
    by_cases hij : i = j
    · subst hij
      obtain rfl : o = oj := Option.some.inj (hi.symm.trans hj)
      rw [put_val a o v (fun d hd => by rw [h.tmps]; exact hds i o d hi hd)]
      exact hR
    · rw [set_ne false hij] at hl
      have hold := h.yields j oj hj hl (fun k hkl => hk k (by
        by_cases hik : i = k
        · rw [← hik]; exact set_eq hin false
        · rw [set_ne false hik]; exact hkl))
      have hdv : dval (a.put o.dst v) oj = dval a oj := by
        unfold dval
        cases hdd : oj.dst with
        | none =>
          show pval (a.put o.dst v) oj = pval a oj
          unfold pval
          cases hsp : sptr oj with
          | none => rfl
          | some t =>
            refine put_get a o.dst v t (fun e => ?_)
            have h6 := hc.c6 j i oj o t hj hi hsp e
            unfold needs at h6
            obtain ⟨e', he', rfl⟩ := List.mem_map.1 h6
            obtain ⟨he1, he2⟩ := List.mem_filter.1 he'
            have hb : Region.binds .any e' = true := by simp only [Bool.and_eq_true] at he2; exact he2.1
            have := h.closed j oj hj hl e' (by simpa using he1) hb
            rw [hunf] at this; cases this
        | some d => exact put_get a o.dst v d (fun e => hij (hc.c1 i j o oj d hi hj e hdd))
      rw [hdv]
      split at hstep
      · rename_i hk2
        rcases hc.c4 i (by rw [← h.size]; exact hin) hk2 j oj hj with h4 | h4 | h4 | h4
        · exact absurd h4.symm hij
        · exact absurd h4 (hk i (set_eq hin false))
        · exact hst2 j _ w w' h4 hold h.below hstep
        · have := h.anc h4 hl; rw [hunf] at this; cases this
      · exact hst1 j _ w w' hold hstep
  · intro t ht
    have hne : o.dst ≠ some t := fun e => by have := ht i o hi e; rw [set_eq hin false] at this; cases this
    rw [put_get a o.dst v t hne]
    refine h.frame t (fun j oj hj hd => ?_)
    have := ht j oj hj hd
    by_cases hij : i = j
    · subst hij; exact hunf
    · rwa [set_ne false hij] at this
def cntK (listed : Array Bool) : Nat → Nat | 0 => 0 | n + 1 => cntK listed n + (if listed.getD n true = false then 1 else 0)
theorem cntK_ge {listed : Array Bool} {i : Nat} : ∀ n, n ≤ i → cntK (listed.setIfInBounds i true) n = cntK listed n := by
  intro n
  induction n with
  | zero => intro _; rfl
  | succ n ih => intro h; show cntK _ n + _ = cntK _ n + _; rw [ih (by omega), set_ne true (by omega)]
theorem cntK_set {listed : Array Bool} {i : Nat} (h : listed.getD i true = false) : ∀ n, i < n → cntK (listed.setIfInBounds i true) n + 1 = cntK listed n := by
  intro n
  induction n with
  | zero => intro hn; omega
  | succ n ih =>
    intro hn
    show cntK _ n + _ + 1 = cntK _ n + _
    by_cases hin : i = n
    · subst hin
      rw [cntK_ge i (Nat.le_refl _), set_eq (get_in h).1 true, h]; simp
    · rw [set_ne true hin, ← ih (by omega)]; omega
theorem cntK_zero {listed : Array Bool} : ∀ n, cntK listed n = 0 → ∀ j, j < n → listed.getD j true ≠ false := by
  intro n
  induction n with
  | zero => intro _ j hj; omega
  | succ n ih =>
    intro h j hj
    have h' : cntK listed n + (if listed.getD n true = false then 1 else 0) = 0 := h
    by_cases hjn : j = n
    · subst hjn; intro e; rw [if_pos e] at h'; omega
    · exact ih (by omega) j (by omega)
theorem rel_any (hc : Checks l s kd kl) (hst1 : ∀ j v w w', R j v w → Below w.heap.size w w' → R j v w') (hst2 : ∀ j v w w', s.getD j 1 = 2 → R j v w → Below N0 w0 w → Below N0 w w' → R j v w')
    (hds : ∀ (i : Nat) (o : Oper) (d : Tmp), l[i]? = some o → o.dst = some d → d < a0.tmps.size) (hN : N0 ≤ w0.heap.size) (hop : ∀ i o, l[i]? = some o → Hop P l a0 w0 N0 R kd i o)
    (hend : ∀ a w, Below N0 w0 w → (∀ (j : Nat) (oj : Oper), l[j]? = some oj → (∀ i, j ∉ kl.getD i []) → R j (dval a oj) w) → (∀ t, (∀ (j : Nat) (oj : Oper), l[j]? = some oj → oj.dst ≠ some t) → a.tmps.getD t undef = a0.tmps.getD t undef) → a.tmps.size = a0.tmps.size → a.defers = a0.defers → Q .normal a w) :
    ∀ (fuel : Nat) (listed : Array Bool) (a : Act) (w : World), Inv l a0 w0 N0 R kd kl listed a w → cntK listed l.length ≤ fuel → wpAny P .any l.toArray Q fuel listed a w := by
  have hfin : ∀ (listed : Array Bool) (a : Act) (w : World), Inv l a0 w0 N0 R kd kl listed a w → (∀ j, j < l.length → listed.getD j true ≠ false) → Q .normal a w := by
    intro listed a w hI hall
    refine hend a w hI.below (fun j oj hj hk => hI.yields j oj hj (get_true (by rw [hI.size]; exact (List.getElem?_eq_some_iff.1 hj).1) (hall j (List.getElem?_eq_some_iff.1 hj).1)) (fun i _ => hk i)) (fun t ht => hI.frame t (fun j oj hj hd => absurd hd (ht j oj hj))) hI.tmps hI.defers
  have hrd : ∀ (listed : Array Bool) (a : Act) (w : World), Inv l a0 w0 N0 R kd kl listed a w → Region.ready .any l.toArray listed = [] → ∀ j, j < l.length → listed.getD j true ≠ false := by
    intro listed a w hI hr j
    induction j using Nat.strongRecOn with
    | _ j ih =>
      intro hj hun
      have hm : j ∈ Region.ready .any l.toArray listed := mem_ready.2 ⟨hun, l[j], by simp [hj], fun e he hb => by
        have hlt := hc.c5 j l[j] (by simp [hj]) e he hb
        exact get_true (by rw [hI.size]; omega) (ih e.on hlt (by omega))⟩
      rw [hr] at hm; cases hm
  intro fuel
  induction fuel with
  | zero =>
    intro listed a w hI hcn
    have hall := cntK_zero (listed := listed) l.length (by omega)
    refine ⟨?_, hfin listed a w hI hall⟩
    rw [List.eq_nil_iff_forall_not_mem]
    intro j hj
    obtain ⟨h1, o, h2, _⟩ := mem_ready.1 hj
    exact hall j (by have := (Array.getElem?_eq_some_iff.1 h2).1; simpa using this) h1
  | succ fuel ih =>
    intro listed a w hI hcn
    refine ⟨fun hr => hfin listed a w hI (hrd listed a w hI hr), fun i hi => ?_⟩
    obtain ⟨hun, o, ho, hre⟩ := mem_ready.1 hi
    have hlo : l[i]? = some o := by simpa using ho
    have hil := (List.getElem?_eq_some_iff.1 hlo).1
    obtain ⟨hin, hunf⟩ := get_in hun
    have hcs := cntK_set hun l.length hil
    have hH := hop i o hlo a w hI.below (Nat.le_trans hN hI.below.size) (fun he => hI.below2 fun i' hli' hk2 => by
        have hi'l : i' < l.length := by
          rw [← hI.size]
          rcases Nat.lt_or_ge i' listed.size with h' | h'
          · exact h'
          · simp [Array.getElem?_eq_none h'] at hli'
        unfold earlyB at he
        have h1 := List.all_eq_true.1 he i' (List.mem_range.2 hi'l)
        rw [Bool.or_eq_true] at h1
        rcases h1 with h1 | h1
        · rw [bne_iff_ne] at h1; exact h1 hk2
        · have := hI.anc (masks_spec l.toArray l [] (fun j => by simp) (fun i k hk => by simp at hk) _ _ h1) hli'
          rw [hunf] at this; cases this) (by
        intro k hk ok hok
        unfold needs at hk
        obtain ⟨e, he, rfl⟩ := List.mem_map.1 hk
        obtain ⟨he1, he2⟩ := List.mem_filter.1 he
        have hb : Region.binds .any e = true := by simp only [Bool.and_eq_true] at he2; exact he2.1
        refine hI.yields e.on ok hok (hre e (by simpa using he1) hb) (fun i' hli' hkl => ?_)
        have hi'l : i' < l.length := by
          rw [← hI.size]
          rcases Nat.lt_or_ge i' listed.size with h' | h'
          · exact h'
          · simp [Array.getElem?_eq_none h'] at hli'
        rcases hc.c3 i' e.on hi'l hkl i o hlo (by unfold needs; exact hk) with h3 | h3
        · subst h3; rw [hunf] at hli'; cases hli'
        · have := hI.anc h3 hli'; rw [hunf] at this; cases this)
      (by
        intro t ht hn
        refine hI.frame t (fun j oj hj hd => ?_)
        rcases hc.c2 i o t j oj hlo ht hj hd with h2 | h2 | h2
        · exact absurd hd (hn j h2 oj hj)
        · subst h2; exact hunf
        · cases hlj : listed.getD j false with
          | false => rfl
          | true => have := hI.anc h2 hlj; rw [hunf] at this; cases this)
    unfold wpOp
    simp only [ho]
    split
    · rename_i hw
      rw [if_pos hw] at hH
      left
      refine hH.wp (fun v w' ⟨h1, h2⟩ => ?_)
      exact ih _ _ _ (inv_step hc hst1 hst2 hds hN hI hlo hun hre h1 h2) (by omega)
    · rename_i hw
      rw [if_neg hw] at hH
      refine ih _ _ _ (inv_step (v := undef) (w' := w) hc hst1 hst2 hds hN hI hlo hun hre hH ?_) (by omega)
      split
      · exact Below.refl _ _
      · exact Below.refl _ _
/-- A region that draws its order, by what each of its operations yields. -/
theorem wp_region_rel2 {id : Nat} {a : Act} {w : World} (N0 : Nat) (hN : N0 ≤ w.heap.size) (R : Nat → Value → World → Prop) (s kd : List Nat) (kl : List (List Nat)) (hm : P.follows .mixedOrders = true) (hB : relB l s kd kl = true)
    (hst1 : ∀ j v w1 w2, R j v w1 → Below w1.heap.size w1 w2 → R j v w2) (hst2 : ∀ j v w1 w2, s.getD j 1 = 2 → R j v w1 → Below N0 w.drew w1 → Below N0 w1 w2 → R j v w2)
    (hds : ∀ (i : Nat) (o : Oper) (d : Tmp), l[i]? = some o → o.dst = some d → d < a.tmps.size) (hop : ∀ i o, l[i]? = some o → Hop P l a w.drew N0 R kd i o)
    (hend : ∀ a' w', Below N0 w.drew w' → (∀ (j : Nat) (oj : Oper), l[j]? = some oj → (∀ i, j ∉ kl.getD i []) → R j (dval a' oj) w') → (∀ t, (∀ (j : Nat) (oj : Oper), l[j]? = some oj → oj.dst ≠ some t) → a'.tmps.getD t undef = a.tmps.getD t undef) → a'.tmps.size = a.tmps.size → a'.defers = a.defers → Q .normal a' w') :
    (Code.region id l.toArray true).wp P Q a w := by
  refine wp_region_any hm ?_
  have hcn : ∀ n m, cntK (Array.replicate m false) n ≤ n := by
    intro n m
    induction n with
    | zero => exact Nat.le_refl _
    | succ n ih => show cntK _ n + _ ≤ n + 1; split <;> omega
  have := rel_any (P := P) (Q := Q) (relB_spec hB) hst1 hst2 hds (show N0 ≤ w.drew.heap.size from hN) hop hend l.length (Array.replicate l.length false) a w.drew
    ⟨by simp, fun j oj hj hl => by simp [Array.getD_eq_getD_getElem?, Array.getElem?_replicate] at hl; split at hl <;> simp at hl, Below.refl _ _, fun _ => Below.refl _ _, fun j oj hj hl => by simp [Array.getD_eq_getD_getElem?, Array.getElem?_replicate] at hl; split at hl <;> simp at hl, fun _ _ => rfl, rfl, rfl⟩ (hcn _ _)
  simpa using this
theorem rel_start {Φ : Nat → Oper → Prop} {l : List Oper} (h : ∀ i o', l[i]? = some o' → Φ (0 + i) o') : ∀ i o', l[i]? = some o' → Φ i o' := fun i o' hi => by have := h i o' hi; rwa [Nat.zero_add] at this
theorem rel_cons {Φ : Nat → Oper → Prop} {o : Oper} {r : List Oper} {k : Nat} (h : Φ k o) (hl : ∀ i o', r[i]? = some o' → Φ (k + 1 + i) o') : ∀ i o', (o :: r)[i]? = some o' → Φ (k + i) o' := by
  intro i o' hi
  cases i with
  | zero => simp at hi; rw [← hi]; exact h
  | succ i => rw [show k + (i + 1) = k + 1 + i by omega]; exact hl i o' (by simpa using hi)
theorem rel_nil {Φ : Nat → Oper → Prop} {k : Nat} : ∀ i o', ([] : List Oper)[i]? = some o' → Φ (k + i) o' := by intro i o' h; simp at h
end

/-! For the use. -/
def PureV (x : Value) : Value → World → Prop := fun v _ => v = x
def NewB (len : Nat) (cs : Array Value) (t : TypeId) : Value → World → Prop := fun v w => ∃ B, v = .slice (some ⟨B, 0, none⟩) len len ∧ w.heap[B]? = some (.cells cs t (0, 0))
def AnyV : Value → World → Prop := fun _ _ => True
def St1 (φ : Value → World → Prop) : Prop := ∀ v w1 w2, φ v w1 → Below w1.heap.size w1 w2 → φ v w2
def St2 (N0 : Nat) (w0 : World) (φ : Value → World → Prop) : Prop := ∀ v w1 w2, φ v w1 → Below N0 w0 w1 → Below N0 w1 w2 → φ v w2
theorem PureV.st1 (x : Value) : St1 (PureV x) := fun _ _ _ h _ => h
theorem PureV.st2 (x : Value) (N0 : Nat) (w0 : World) : St2 N0 w0 (PureV x) := fun _ _ _ h _ _ => h
theorem AnyV.st1 : St1 AnyV := fun _ _ _ h _ => h
theorem AnyV.st2 (N0 : Nat) (w0 : World) : St2 N0 w0 AnyV := fun _ _ _ h _ _ => h
theorem NewB.st1 (len : Nat) (cs : Array Value) (t : TypeId) : St1 (NewB len cs t) := fun v w1 w2 ⟨B, h1, h2⟩ hB => ⟨B, h1, by
  have hlt : B < w1.heap.size := by
    rcases Nat.lt_or_ge B w1.heap.size with h | h
    · exact h
    · rw [Array.getElem?_eq_none h] at h2; cases h2
  rw [hB.block B hlt, h2]⟩
/-- The yields, one behind the other. -/
def RL (Rs : List (Value → World → Prop)) (j : Nat) : Value → World → Prop := Rs.getD j AnyV
theorem RL.st1 {Rs : List (Value → World → Prop)} (h : ∀ φ ∈ Rs, St1 φ) : ∀ j v w1 w2, RL Rs j v w1 → Below w1.heap.size w1 w2 → RL Rs j v w2 := by
  intro j v w1 w2 h1 hB
  unfold RL at h1 ⊢
  rcases Nat.lt_or_ge j Rs.length with hj | hj
  · have e : Rs.getD j AnyV = Rs[j] := by simp [List.getD, hj]
    rw [e] at h1 ⊢
    exact h _ (List.getElem_mem hj) v w1 w2 h1 hB
  · have e : Rs.getD j AnyV = AnyV := by simp [List.getD, List.getElem?_eq_none hj]
    rw [e]; trivial
theorem RL.st2 {N0 : Nat} {w0 : World} : ∀ {Rs : List (Value → World → Prop)} {s : List Nat}, (∀ j, j < Rs.length → s.getD j 1 = 2 → St2 N0 w0 (Rs.getD j AnyV)) → ∀ j v w1 w2, s.getD j 1 = 2 → RL Rs j v w1 → Below N0 w0 w1 → Below N0 w1 w2 → RL Rs j v w2 := by
  intro Rs s h j v w1 w2 hs h1 hB1 hB2
  unfold RL at h1 ⊢
  rcases Nat.lt_or_ge j Rs.length with hj | hj
  · exact h j hj hs v w1 w2 h1 hB1 hB2
  · have e : Rs.getD j AnyV = AnyV := by simp [List.getD, List.getElem?_eq_none hj]
    rw [e]; trivial
theorem st1_nil : ∀ φ ∈ ([] : List (Value → World → Prop)), St1 φ := by intro φ h; cases h
theorem st1_cons {φ : Value → World → Prop} {r : List (Value → World → Prop)} (h : St1 φ) (hr : ∀ φ ∈ r, St1 φ) : ∀ ψ ∈ φ :: r, St1 ψ := by
  intro ψ hψ
  rcases List.mem_cons.1 hψ with rfl | hψ
  · exact h
  · exact hr ψ hψ
def St2L (N0 : Nat) (w0 : World) (Rs : List (Value → World → Prop)) (s : List Nat) : Prop := ∀ j, j < Rs.length → s.getD j 1 = 2 → St2 N0 w0 (Rs.getD j AnyV)
theorem st2_nil {N0 : Nat} {w0 : World} {s : List Nat} : St2L N0 w0 [] s := by intro j h; simp at h
theorem st2_cons {N0 : Nat} {w0 : World} {φ : Value → World → Prop} {r : List (Value → World → Prop)} {s : List Nat} (h : St2 N0 w0 φ) (hr : St2L N0 w0 r s) : St2L N0 w0 (φ :: r) (2 :: s) := by
  intro j hj hs
  cases j with
  | zero => exact h
  | succ j => exact hr j (by simpa using hj) (by simpa using hs)
theorem st2_skip {N0 : Nat} {w0 : World} {φ : Value → World → Prop} {r : List (Value → World → Prop)} {s : List Nat} (hr : St2L N0 w0 r s) : St2L N0 w0 (φ :: r) (1 :: s) := by
  intro j hj hs
  cases j with
  | zero => simp at hs
  | succ j => exact hr j (by simpa using hj) (by simpa using hs)
def noneedB (l : List Oper) (o : Oper) (t : Tmp) : Bool := (needs l.toArray o).all fun k => match l[k]? with | some x => x.dst != some t | none => true
theorem noneed {l : List Oper} {o : Oper} {t : Tmp} (h : noneedB l o t = true) : ∀ k ∈ needs l.toArray o, ∀ ok, l[k]? = some ok → ok.dst ≠ some t := by
  intro k hk ok hok
  unfold noneedB at h
  have := List.all_eq_true.1 h k hk
  rw [hok] at this
  simpa using this
theorem mem_needs {l : List Oper} {o : Oper} {k : Nat} (h : (needs l.toArray o).contains k = true) : k ∈ needs l.toArray o := by simpa using h
theorem mem_looks {l : List Oper} {o : Oper} {t : Tmp} (h : (o.looksAt l.toArray).contains t = true) : t ∈ o.looksAt l.toArray := by simpa using h
theorem out_move {P : Program} {o : Oper} {ρ : Operand → Value} {w : World} {φ : Value → World → Prop} {x : Operand} (h : o.op = .move x) (hφ : φ (ρ x) w) : Out P o ρ w φ := by
  unfold Out; rw [BigFrame.run_move x h]; exact hφ
theorem out_assign {P : Program} {o : Oper} {ρ : Operand → Value} {w : World} {φ : Value → World → Prop} {x : Operand} (h : o.op = .assign x) (hφ : φ (ρ x) w) : Out P o ρ w φ := by
  unfold Out; rw [BigFrame.run_assign x h]; exact hφ
theorem out_run {P : Program} {o : Oper} {ρ : Operand → Value} {w w' : World} {v : Value} {φ : Value → World → Prop} (h : (execOp ρ o).run P w = .ok (.value v) w') (hφ : φ v w') : Out P o ρ w φ := by
  unfold Out; rw [h]; exact hφ
theorem out_call {P : Program} {o : Oper} {ρ : Operand → Value} {w : World} {f : FuncId} {args : Array Value} {φ : Value → World → Prop} (h : (execOp ρ o).run P w = .ok (.enter f args) w) (hφ : Calls P f args w fun e w'' => ∃ v, e = .returned v ∧ φ v w'') : Out P o ρ w φ := by
  unfold Out; rw [h]; exact hφ
theorem hop_plain {o : Oper} {y : Nat → Option Bool} {A B : Prop} (hg : o.guard = none) (h : A) : if Region.wanted o y = true then A else B := by
  have : Region.wanted o y = true := by simp [Region.wanted, hg]
  rw [if_pos this]; exact h
theorem fold_size (ys : Array Value) : ∀ (ds : List Nat) (xs : Array Value), (ds.foldl (fun zs d => zs.setIfInBounds d (ys.getD d undef)) xs).size = xs.size := by
  intro ds
  induction ds with
  | nil => intro xs; rfl
  | cons d r ih => intro xs; simp only [List.foldl_cons]; rw [ih]; simp
theorem fold_get (ys : Array Value) (t : Nat) (ht : t < ys.size) : ∀ (ds : List Nat) (xs : Array Value), ys.size = xs.size → (xs[t]? = ys[t]? ∨ t ∈ ds) → (ds.foldl (fun zs d => zs.setIfInBounds d (ys.getD d undef)) xs)[t]? = ys[t]? := by
  intro ds
  induction ds with
  | nil =>
    intro xs _ h
    rcases h with h | h
    · exact h
    · cases h
  | cons d r ih =>
    intro xs hs h
    simp only [List.foldl_cons]
    refine ih _ (by simpa using hs) ?_
    by_cases hd : d = t
    · subst hd
      left
      rw [Array.getElem?_setIfInBounds_self_of_lt (by omega)]
      rw [Array.getD_eq_getD_getElem?, Array.getElem?_eq_getElem ht]; rfl
    · rcases h with h | h
      · left; rw [Array.getElem?_setIfInBounds_ne hd]; exact h
      · rcases List.mem_cons.1 h with h | h
        · exact absurd h.symm hd
        · exact .inr h
/-- The frame behind a region. -/
theorem rel_frame {l : List Oper} {a0 fa : Act} (ds : List Nat) (hds : l.filterMap (·.dst) = ds) (hff : ∀ t, (∀ (j : Nat) (oj : Oper), l[j]? = some oj → oj.dst ≠ some t) → fa.tmps.getD t undef = a0.tmps.getD t undef)
    (hfs : fa.tmps.size = a0.tmps.size) (hfd : fa.defers = a0.defers) : fa = { tmps := ds.foldl (fun zs d => zs.setIfInBounds d (fa.tmps.getD d undef)) a0.tmps, defers := a0.defers } := by
  have e : fa.tmps = ds.foldl (fun zs d => zs.setIfInBounds d (fa.tmps.getD d undef)) a0.tmps := by
    apply Array.ext_getElem?
    intro t
    rcases Nat.lt_or_ge t fa.tmps.size with ht | ht
    · rw [fold_get fa.tmps t ht ds a0.tmps hfs]
      by_cases hm : t ∈ ds
      · exact .inr hm
      · left
        have := hff t (fun j oj hj hd => hm (by rw [← hds]; exact List.mem_filterMap.2 ⟨oj, List.mem_of_getElem? hj, hd⟩))
        rw [Array.getD_eq_getD_getElem?, Array.getD_eq_getD_getElem?, Array.getElem?_eq_getElem ht, Array.getElem?_eq_getElem (by omega)] at this
        rw [Array.getElem?_eq_getElem ht, Array.getElem?_eq_getElem (by omega)]
        simp at this ⊢; exact this.symm
    · rw [Array.getElem?_eq_none ht, Array.getElem?_eq_none (by rw [fold_size]; omega)]
  cases fa
  simp only at e hfd
  rw [← e, ← hfd]
theorem unkilled {kl : List (List Nat)} {j : Nat} (h : (kl.all fun x => !x.contains j) = true) : ∀ i, j ∉ kl.getD i [] := by
  intro i hi
  rcases Nat.lt_or_ge i kl.length with hlt | hge
  · have e : kl.getD i [] = kl[i] := by simp [List.getD, hlt]
    rw [e] at hi
    have := List.all_eq_true.1 h _ (List.getElem_mem hlt)
    simp at this
    exact this hi
  · have e : kl.getD i [] = [] := by simp [List.getD, List.getElem?_eq_none hge]
    rw [e] at hi; cases hi
end Go.Proofs.YtdhaanaenklleaaGreatDoor.K3
namespace Go.Proofs.YtdhaanaenklleaaGreatDoor
set_option linter.unusedVariables false
set_option linter.unusedSimpArgs false
open Go.ChangeShapes Go.WideShapes Go.ChangeAt Go.RowKit

/-- The result's cell. -/
structure ResC (w x : World) : Prop where
  at_ : ∃ cs, x.heap[w.heap.size]? = some (.cells cs 209 (0, 0)) ∧ cs.size = 34
  b : Below w.heap.size w x
theorem ResC.below {w x y : World} (h : ResC w x) (hB : Below x.heap.size x y) : ResC w y := by
  obtain ⟨cs, h1, h2⟩ := h.at_
  exact ⟨⟨cs, (hB.block _ (Array.getElem?_eq_some_iff.1 h1).1).trans h1, h2⟩, h.b.trans (hB.mono h.b.size)⟩
theorem ResC.made (w : World) (cs : Array Value) (h : cs.size = 34) : ResC w (w.alloc (.cells cs 209)) := ⟨⟨cs, heap_alloc_new _ _, h⟩, (Below.refl _ _).alloc (Nat.le_refl _) _⟩
structure MadeC (N0 : Nat) (R : Array Value) (v : Value) (w : World) : Prop where
  e : ∃ B, N0 ≤ B ∧ v = .pointer (some ⟨B, 0, none⟩) ∧ w.heap[B]? = some (.cells R 209 (0, 0))
theorem MadeC.st1 (N0 : Nat) (R : Array Value) : K3.St1 (MadeC N0 R) := fun v w1 w2 ⟨B, h0, h1, h2⟩ hB => ⟨B, h0, h1, (hB.block _ (Array.getElem?_eq_some_iff.1 h2).1).trans h2⟩
theorem LAt.far {X : Type} {n : Nat} {fl : X → List Value} {w : World} {p : Option Addr} {m c : Nat} {l : List X} (h : LAt n fl w (.slice p m c) l) (g : Nat) (cs : Array Value) (hne : ∀ b o, p = some ⟨b, o, none⟩ → b ≠ g) : LAt n fl (w.setRow g cs) (.slice p m c) l := by
  refine ⟨h.1, ?_⟩
  rcases h.2 with ⟨p', cap, e, h0⟩ | ⟨b, off, cap, e, hb, hcap, hmax, hcell⟩
  · exact .inl ⟨p', cap, e, h0⟩
  · refine .inr ⟨b, off, cap, e, by simp [World.setRow]; exact hb, hcap, hmax, fun j x hx => ?_⟩
    rw [← hcell j x hx]
    have hp := hne b off (by simp only [Value.slice.injEq] at e; exact e.1)
    have := setRow_other w g b cs hp
    simp only [World.cell?, this]
theorem out_load3 {P : Program} {o : Oper} {ρ : Operand → Value} {w : World} {φ : Value → World → Prop} {ty : TypeId} {x : Operand} {p : Addr} {v : Value} (ho : o.op = .load ty x) (hx : ρ x = .pointer (some p)) (hr : (loadVar ty p).run P w = .ok v w) (hφ : φ v w) : K3.Out P o ρ w φ := by
  refine K3.out_run (v := v) (w' := w) ?_ hφ
  unfold execOp
  simp only [ho, hx, Instr.loadAt, Instr.sureAddr, Sem.run_bind, Sem.run_pure, Result.andThen_ok, hr]
theorem out_build3 {P : Program} {o : Oper} {ρ : Operand → Value} {w : World} {φ : Value → World → Prop} {ty : TypeId} {parts : Array (Nat × Operand)} {ps : Array (Nat × Value)} {v : Value} (ho : o.op = .build ty parts) (hx : (parts.map fun (i, x) => (i, ρ x)) = ps) (hr : (Instr.build ty ps).run P w = .ok v w) (hφ : φ v w) : K3.Out P o ρ w φ := by
  refine K3.out_run (v := v) (w' := w) ?_ hφ
  unfold execOp
  simp only [ho, hx, Sem.run_bind, Sem.run_pure, Result.andThen_ok, hr]
end Go.Proofs.YtdhaanaenklleaaGreatDoor
namespace Go.Proofs.YtdhaanaenklleaaGreatDoor
set_option linter.unusedVariables false
set_option linter.unusedSimpArgs false
open Go.ChangeShapes Go.WideShapes Go.ChangeAt Go.RowKit

/-- The box of the commit that was handed in. -/
structure CellR (w : World) (R : Array Value) (x : World) : Prop where
  at_ : x.heap[w.heap.size]? = some (.cells R 209 (0, 0))
  b : Below w.heap.size w x
theorem CellR.below {w x y : World} {R : Array Value} (h : CellR w R x) (hB : Below x.heap.size x y) : CellR w R y :=
  ⟨(hB.block _ (Array.getElem?_eq_some_iff.1 h.at_).1).trans h.at_, h.b.trans (hB.mono h.b.size)⟩
theorem CellR.made (w : World) (R : Array Value) : CellR w R (w.alloc (.cells R 209)) := ⟨heap_alloc_new _ _, (Below.refl _ _).alloc (Nat.le_refl _) _⟩
theorem treeB_size {a : List Ent} (hz : ∀ x ∈ a, x.1.size ≤ 4096) (h32 : ∀ x ∈ a, x.2.2.1.length = 32) (hn : a.length ≤ 60) : (treeB a).size ≤ 1048576 := by
  unfold treeB
  rw [sjoin_size, partsE_len]
  have h := total_parts (n := 4096) a (fun x hx => ⟨hz x hx, h32 x hx⟩)
  have h2 : a.length * (4096 + 36) ≤ 60 * (4096 + 36) := Nat.mul_le_mul_right _ hn
  omega
end Go.Proofs.YtdhaanaenklleaaGreatDoor
namespace Go.Proofs.YtdhaanaenklleaaGreatDoor
set_option linter.unusedVariables false
set_option linter.unusedSimpArgs false
open Go.ChangeShapes Go.WideShapes Go.ChangeAt Go.RowKit

end Go.Proofs.YtdhaanaenklleaaGreatDoor
namespace Go.Proofs.YtdhaanaenklleaaGreatDoor
open Go.ChangeShapes Go.WideShapes Go.ChangeAt Go.RowKit
end Go.Proofs.YtdhaanaenklleaaGreatDoor
