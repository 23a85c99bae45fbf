/- The store, and what was put into it; Single steps of a walk; a list of files that the store's blocks are apart from; Build's own recursion; Build. -/
import Derived.Test.YtdhaanaenklleaaGreatDoorQ8
namespace Go.Proofs.YtdhaanaenklleaaGreatDoor
set_option linter.unusedVariables false
set_option linter.unusedSimpArgs false
open Go.ChangeShapes Go.WideShapes Go.ChangeAt Go.RowKit

/-- A row of entries that is none of the store's blocks, nor one of X. -/
def RowO (T X : Nat → Prop) (w : World) (r : Value) (a : List Ent) : Prop := ∃ base, (∀ q, T q → q < base) ∧ w.ownsRow base 58 34 r a.length (LF entV a) ∧ ∀ q, X q → r.ownBlock ≠ some q
theorem own_same {w w' : World} {base e s : Nat} {v : Value} {n : Nat} {xs : List Value} (h : w.ownsRow base e s v n xs) (hk : ∀ q, base ≤ q → q < w.heap.size → v.ownBlock = some q → w'.heap[q]? = w.heap[q]?) : w'.ownsRow base e s v n xs := by
  obtain ⟨h1, h2⟩ := h
  refine ⟨h1, ?_⟩
  rcases h2 with h2 | ⟨g, cap, cur, rfl, hb, hg, rest⟩
  · exact .inl h2
  · exact .inr ⟨g, cap, cur, rfl, hb, (hk g hb (lt_of_block hg) rfl).trans hg, rest⟩
theorem own_lt {w : World} {base e s : Nat} {v : Value} {n : Nat} {xs : List Value} (h : w.ownsRow base e s v n xs) {q : Nat} (hq : v.ownBlock = some q) : base ≤ q ∧ q < w.heap.size := by
  rcases h.2 with ⟨rfl, _⟩ | ⟨g, cap, cur, rfl, hb, hg, rest⟩
  · cases hq
  · obtain rfl : g = q := by simpa [Value.ownBlock] using hq
    exact ⟨hb, lt_of_block hg⟩
theorem RowO.kp {T X : Nat → Prop} {w w' : World} {r : Value} {a : List Ent} (h : RowO T X w r a) (hk : Kp T w w') : RowO T X w' r a := by
  obtain ⟨base, h1, h2, h3⟩ := h
  exact ⟨base, h1, own_same h2 (fun q h5 h6 _ => hk.block q h6 (fun ht => by have := h1 q ht; omega)), h3⟩
theorem Kp.mono {T T2 : Nat → Prop} {w w' : World} (h : Kp T w w') (k : ∀ q, T q → T2 q) : Kp T2 w w' := ⟨h.os, h.tape, h.output, h.size, fun q hq hn => h.block q hq (fun ht => hn (k q ht))⟩
/-- The store has these files' bytes and these trees, and nothing else but commits; X: blocks that its rows are not. -/
structure Hav (T X : Nat → Prop) (b : Nat) (fc : List UInt8 → Option Value) (nc : Nat) (AB : List ByteArray) (AT : List (List Ent)) (nb nt : Nat) (w : World) : Prop where
  lt : ∀ q, T q → 1 < q ∧ q < w.heap.size
  xl : ∀ q, X q → q < w.heap.size
  f : ∃ fb ft, Sto T b fb ft fc nb nt nc w ∧ (∀ x v, fb x = some v → ∃ s ∈ AB, x = bid s ∧ v = .agg #[.string s]) ∧ (∀ s ∈ AB, (fb (bid s)).isSome = true) ∧
    (∀ x r, ft x = some r → ∃ a ∈ AT, x = tid (treeB a) ∧ RowO T X w r a) ∧ (∀ a ∈ AT, (ft (tid (treeB a))).isSome = true)
def hasB (AB : List ByteArray) (s : ByteArray) : Prop := ∃ x ∈ AB, bid x = bid s
def hasT (AT : List (List Ent)) (a : List Ent) : Prop := ∃ x ∈ AT, tid (treeB x) = tid (treeB a)
theorem hasB.app {A B : List ByteArray} {s : ByteArray} (h : hasB A s) : hasB (A ++ B) s := by
  obtain ⟨x, hx, e⟩ := h; exact ⟨x, List.mem_append_left _ hx, e⟩
theorem hasT.app {A B : List (List Ent)} {s : List Ent} (h : hasT A s) : hasT (A ++ B) s := by
  obtain ⟨x, hx, e⟩ := h; exact ⟨x, List.mem_append_left _ hx, e⟩
/-- How the numbers of things grow. -/
structure Grow (AB : List ByteArray) (AT : List (List Ent)) (nb nt : Nat) (NB : List ByteArray) (NT : List (List Ent)) (nb' nt' : Nat) : Prop where
  b : (∀ s ∈ NB, hasB AB s) → nb' = nb
  t : (∀ a ∈ NT, hasT AT a) → nt' = nt
  lb : nb' ≤ nb + NB.length
  lt : nt' ≤ nt + NT.length
  gb : nb ≤ nb'
  gt : nt ≤ nt'
  n1 : (∃ s ∈ NB, ¬ hasB AB s) → nb + 1 ≤ nb'
  t1 : (∃ a ∈ NT, ¬ hasT AT a) → nt + 1 ≤ nt'
theorem Grow.refl (AB : List ByteArray) (AT : List (List Ent)) (nb nt : Nat) : Grow AB AT nb nt [] [] nb nt := ⟨fun _ => rfl, fun _ => rfl, Nat.le_refl _, Nat.le_refl _, Nat.le_refl _, Nat.le_refl _, fun ⟨s, h, _⟩ => (by cases h), fun ⟨s, h, _⟩ => by cases h⟩
theorem Grow.trans {AB NB N2 : List ByteArray} {AT NT T2 : List (List Ent)} {nb nt n1 t1 n2 t2 : Nat} (h : Grow AB AT nb nt NB NT n1 t1) (k : Grow (AB ++ NB) (AT ++ NT) n1 t1 N2 T2 n2 t2) : Grow AB AT nb nt (NB ++ N2) (NT ++ T2) n2 t2 :=
  ⟨fun H => (k.b (fun s hs => (H s (List.mem_append_right _ hs)).app)).trans (h.b (fun s hs => H s (List.mem_append_left _ hs))),
   fun H => (k.t (fun s hs => (H s (List.mem_append_right _ hs)).app)).trans (h.t (fun s hs => H s (List.mem_append_left _ hs))),
   by have := h.lb; have := k.lb; rw [List.length_append]; omega, by have := h.lt; have := k.lt; rw [List.length_append]; omega, Nat.le_trans h.gb k.gb, Nat.le_trans h.gt k.gt,
   fun ⟨s, hs, hn⟩ => by
    have g1 := h.gb; have g2 := k.gb
    rcases List.mem_append.1 hs with hs | hs
    · have := h.n1 ⟨s, hs, hn⟩; omega
    · by_cases hh : hasB (AB ++ NB) s
      · obtain ⟨y, hy, e⟩ := hh
        rcases List.mem_append.1 hy with hy | hy
        · exact absurd ⟨y, hy, e⟩ hn
        · have := h.n1 ⟨y, hy, fun ⟨z, hz, e2⟩ => hn ⟨z, hz, e2.trans e⟩⟩; omega
      · have := k.n1 ⟨s, hs, hh⟩; omega,
   fun ⟨s, hs, hn⟩ => by
    have g1 := h.gt; have g2 := k.gt
    rcases List.mem_append.1 hs with hs | hs
    · have := h.t1 ⟨s, hs, hn⟩; omega
    · by_cases hh : hasT (AT ++ NT) s
      · obtain ⟨y, hy, e⟩ := hh
        rcases List.mem_append.1 hy with hy | hy
        · exact absurd ⟨y, hy, e⟩ hn
        · have := h.t1 ⟨y, hy, fun ⟨z, hz, e2⟩ => hn ⟨z, hz, e2.trans e⟩⟩; omega
      · have := k.t1 ⟨s, hs, hh⟩; omega⟩
theorem KeysAt.kp {T : Nat → Prop} {w w' : World} (h : S.KeysAt w) (hk : Kp T w w') (hT : ∀ q, T q → 1 < q) : S.KeysAt w' :=
  h.below (n := 1) (by omega) (hk.below (fun k hk => by have := hT k hk; omega) h.1)
theorem MaxAt.kp {T : Nat → Prop} {w w' : World} (h : MaxAt w) (hk : Kp T w w') (hT : ∀ q, T q → 1 < q) : MaxAt w' := by
  obtain ⟨h1, m, hm⟩ := h
  have hB := hk.below (B := 2) (fun k hk => by have := hT k hk; omega) (by omega)
  refine ⟨Nat.lt_of_lt_of_le h1 hk.size, m, ?_⟩
  rw [← hm]
  have := hB.block 1 (by omega)
  simp [World.cell?, this]
theorem Kp.refl (T : Nat → Prop) (w : World) : Kp T w w := ⟨rfl, rfl, rfl, Nat.le_refl _, fun _ _ _ => rfl⟩
section
variable {T X : Nat → Prop} {b nc nb nt : Nat} {fc : List UInt8 → Option Value} {AB : List ByteArray} {AT : List (List Ent)} {w w' : World}
theorem Hav.monoX {X2 : Nat → Prop} (h : Hav T X b fc nc AB AT nb nt w) (k : ∀ q, X2 q → X q) : Hav T X2 b fc nc AB AT nb nt w := by
  obtain ⟨hl, hx, fb, ft, h1, h2, h3, h4, h5⟩ := h
  refine ⟨hl, fun q hq => hx q (k q hq), fb, ft, h1, h2, h3, fun x r hr => ?_, h5⟩
  obtain ⟨a, ha, e, base, r1, r2, r3⟩ := h4 x r hr
  exact ⟨a, ha, e, base, r1, r2, fun q hq => r3 q (k q hq)⟩
theorem Hav.below (h : Hav T X b fc nc AB AT nb nt w) (hB : Below w.heap.size w w') : Hav T (fun q => X q ∨ (w.heap.size ≤ q ∧ q < w'.heap.size)) b fc nc AB AT nb nt w' := by
  obtain ⟨hl, hx, fb, ft, h1, h2, h3, h4, h5⟩ := h
  refine ⟨fun q hq => ⟨(hl q hq).1, Nat.lt_of_lt_of_le (hl q hq).2 hB.size⟩, fun q hq => ?_, fb, ft, h1.same (fun q hq => hB.block q (hl q hq).2), h2, h3, fun x r hx => ?_, h5⟩
  · rcases hq with hq | hq
    · exact Nat.lt_of_lt_of_le (hx q hq) hB.size
    · exact hq.2
  · obtain ⟨a, ha, e, base, r1, r2, r3⟩ := h4 x r hx
    refine ⟨a, ha, e, base, r1, gen_own_below r2 hB, fun q hq hr => ?_⟩
    rcases hq with hq | hq
    · exact r3 q hq hr
    · have := (own_lt r2 hr).2
      omega
theorem Hav.below0 (h : Hav T X b fc nc AB AT nb nt w) (hB : Below w.heap.size w w') : Hav T X b fc nc AB AT nb nt w' := (h.below hB).monoX (fun q hq => .inl hq)
/-- A block that is none of the store's, nor of its rows, turns. -/
theorem Hav.turn (h : Hav T X b fc nc AB AT nb nt w) (g : Nat) (hT : ¬ T g) (hX : X g) (hsz : w.heap.size ≤ w'.heap.size) (hb : ∀ q, q < w.heap.size → q ≠ g → w'.heap[q]? = w.heap[q]?) : Hav T X b fc nc AB AT nb nt w' := by
  obtain ⟨hl, hx, fb, ft, h1, h2, h3, h4, h5⟩ := h
  refine ⟨fun q hq => ⟨(hl q hq).1, Nat.lt_of_lt_of_le (hl q hq).2 hsz⟩, fun q hq => Nat.lt_of_lt_of_le (hx q hq) hsz, fb, ft, h1.same (fun q hq => hb q (hl q hq).2 (fun e => hT (e ▸ hq))), h2, h3, fun x r hx => ?_, h5⟩
  obtain ⟨a, ha, e, base, r1, r2, r3⟩ := h4 x r hx
  exact ⟨a, ha, e, base, r1, own_same r2 (fun q h5 h6 h7 => hb q h6 (fun e => r3 g hX (e ▸ h7))), r3⟩
/-- A row that is none of the store's grows. -/
theorem Hav.append {u v : Value} (h : Hav T (fun q => X q ∨ u.ownBlock = some q) b fc nc AB AT nb nt w) (hu : ∀ q, u.ownBlock = some q → ¬ T q) (hg : w.grownBy w' u.ownBlock) (hv : v.ownBlock = u.ownBlock ∨ v.ownBlock = some w.heap.size) (hlt : ∀ q, v.ownBlock = some q → q < w'.heap.size) :
    Hav T (fun q => X q ∨ v.ownBlock = some q) b fc nc AB AT nb nt w' := by
  obtain ⟨hl, hx, fb, ft, h1, h2, h3, h4, h5⟩ := h
  refine ⟨fun q hq => ⟨(hl q hq).1, Nat.lt_of_lt_of_le (hl q hq).2 hg.size⟩, fun q hq => ?_, fb, ft, h1.same (fun q hq => hg.block q (hl q hq).2 (fun e => hu q e.symm hq)), h2, h3, fun x r hx => ?_, h5⟩
  · rcases hq with hq | hq
    · exact Nat.lt_of_lt_of_le (hx q (.inl hq)) hg.size
    · exact hlt q hq
  · obtain ⟨a, ha, e, base, r1, r2, r3⟩ := h4 x r hx
    refine ⟨a, ha, e, base, r1, own_same r2 (fun q h5 h6 h7 => hg.block q h6 (fun e => r3 q (.inr e.symm) h7)), fun q hq hr => ?_⟩
    rcases hq with hq | hq
    · exact r3 q (.inl hq) hr
    · rcases hv with hv | hv
      · exact r3 q (.inr (hv ▸ hq)) hr
      · have h6 := (own_lt r2 hr).2
        rw [hv] at hq
        injection hq with hq
        omega
theorem hav_blob (h : Hav T X b fc nc AB AT nb nt w) (hK : S.KeysAt w) (s : ByteArray) (hs : s.size ≤ 4096) (hn : nb ≤ 1048576) :
    Calls Tryz.prog 18 #[.pointer (some ⟨b, 0, none⟩), .string s] w fun e w' => e = .returned (.tuple #[.agg (bytV (bid s)).toArray, .int .i64 0]) ∧ ∃ nb', Hav T X b fc nc (AB ++ [s]) AT nb' nt w' ∧ Grow AB AT nb nt [s] [] nb' nt ∧ Kp T w w' := by
  obtain ⟨hl, hxl, fb, ft, h1, h2, h3, h4, h5⟩ := h
  refine (putBlob_any h1 (fun q hq => ⟨by have := (hl q hq).1; omega, (hl q hq).2⟩) hK s hs hn).mono ?_
  rintro e w' ⟨rfl, hS, hKp⟩
  refine ⟨rfl, _, ⟨fun q hq => ⟨(hl q hq).1, Nat.lt_of_lt_of_le (hl q hq).2 hKp.size⟩, fun q hq => Nat.lt_of_lt_of_le (hxl q hq) hKp.size, _, ft, hS, fun x v hx => ?_, fun t ht => ?_, fun x r hx => ?_, h5⟩, ⟨fun H => ?_, fun _ => rfl, ?_, Nat.le_refl _, ?_, Nat.le_refl _, fun ⟨s2, hs2, hn2⟩ => ?_, fun ⟨s2, h, _⟩ => by cases h⟩, hKp⟩
  · unfold putF at hx
    split at hx
    · rename_i e
      injection hx with hx
      exact ⟨s, by simp, e, hx.symm⟩
    · obtain ⟨t, ht, e1, e2⟩ := h2 x v hx
      exact ⟨t, List.mem_append_left _ ht, e1, e2⟩
  · unfold putF
    split
    · rfl
    · rename_i e
      rcases List.mem_append.1 ht with ht | ht
      · exact h3 t ht
      · rw [List.mem_singleton.1 ht] at e; exact absurd rfl e
  · obtain ⟨a, ha, e, hr⟩ := h4 x r hx
    exact ⟨a, ha, e, hr.kp hKp⟩
  · obtain ⟨x, hx, e⟩ := H s (by simp)
    rw [if_pos (by rw [← e]; exact h3 x hx)]
  · simp only [List.length_singleton]
    split <;> omega
  · split <;> omega
  · rw [List.mem_singleton.1 hs2] at hn2
    split
    · rename_i h6
      exfalso
      cases hv : fb (bid s) with
      | none => rw [hv] at h6; cases h6
      | some v =>
        obtain ⟨t, ht, e1, _⟩ := h2 _ v hv
        exact hn2 ⟨t, ht, e1.symm⟩
    · omega
theorem hav_tree (h : Hav T X b fc nc AB AT nb nt w) (hK : S.KeysAt w) (hM : MaxAt w) (v : Value) (a : List Ent) (hv : LAt 34 entV w v a) (hz : ∀ x ∈ a, x.1.size ≤ 65536 ∧ x.2.2.1.length = 32) (hn : a.length ≤ 65536) (hts : (treeB a).size ≤ 1048576) (hnt : nt ≤ 1048576) (hg : goodT a = true) :
    Calls Tryz.prog 20 #[.pointer (some ⟨b, 0, none⟩), v] w fun e w' => e = .returned (.tuple #[.agg (bytV (tid (treeB a))).toArray, .int .i64 0]) ∧ ∃ nt', Hav T X b fc nc AB (AT ++ [a]) nb nt' w' ∧ Grow AB AT nb nt [] [a] nb nt' ∧ Kp T w w' := by
  obtain ⟨hl, hxl, fb, ft, h1, h2, h3, h4, h5⟩ := h
  refine (putTree8_ok h1 (fun q hq => ⟨by have := (hl q hq).1; omega, (hl q hq).2⟩) hK hM v a hv hz hn hts hnt hg).mono ?_
  rintro e w' ⟨rfl, r0, hS, hO, hKp⟩
  refine ⟨rfl, _, ⟨fun q hq => ⟨(hl q hq).1, Nat.lt_of_lt_of_le (hl q hq).2 hKp.size⟩, fun q hq => Nat.lt_of_lt_of_le (hxl q hq) hKp.size, fb, _, hS, h2, h3, fun x r hx => ?_, fun t ht => ?_⟩, ⟨fun _ => rfl, fun H => ?_, Nat.le_refl _, ?_, Nat.le_refl _, ?_, fun ⟨s2, h, _⟩ => (by cases h), fun ⟨s2, hs2, hn2⟩ => ?_⟩, hKp⟩
  · unfold putF at hx
    split at hx
    · rename_i e
      injection hx with hx
      subst hx
      refine ⟨a, by simp, e, w.heap.size, fun q hq => (hl q hq).2, hO, fun q hq hr => ?_⟩
      have h6 := (own_lt hO hr).1
      have h7 := hxl q hq
      omega
    · obtain ⟨t, ht, e1, e2⟩ := h4 x r hx
      exact ⟨t, List.mem_append_left _ ht, e1, e2.kp hKp⟩
  · unfold putF
    split
    · rfl
    · rename_i e
      rcases List.mem_append.1 ht with ht | ht
      · exact h5 t ht
      · rw [List.mem_singleton.1 ht] at e; exact absurd rfl e
  · obtain ⟨x, hx, e⟩ := H a (by simp)
    rw [if_pos (by rw [← e]; exact h5 x hx)]
  · simp only [List.length_singleton]
    split <;> omega
  · split <;> omega
  · rw [List.mem_singleton.1 hs2] at hn2
    split
    · rename_i h6
      exfalso
      cases hv : ft (tid (treeB a)) with
      | none => rw [hv] at h6; cases h6
      | some v =>
        obtain ⟨t, ht, e1, _⟩ := h4 _ v hv
        exact hn2 ⟨t, ht, e1.symm⟩
    · omega
end
/-- The trees that Build puts: those below, and all. -/
def bldS : Nat → ByteArray → List Fil → List (List Ent)
  | 0, _, _ => []
  | _ + 1, _, [] => []
  | n + 1, d, f :: r =>
    if partH (underB d f.1).1 = (underB d f.1).1 then bldS n d r
    else bldS n (jn d (partH (underB d f.1).1)) ((f :: r).take (belowN (jn d (partH (underB d f.1).1)) (f :: r))) ++ [bldE n (jn d (partH (underB d f.1).1)) ((f :: r).take (belowN (jn d (partH (underB d f.1).1)) (f :: r)))]
      ++ bldS n d ((f :: r).drop (belowN (jn d (partH (underB d f.1).1)) (f :: r)))
def bldT (n : Nat) (d : ByteArray) (l : List Fil) : List (List Ent) := bldS n d l ++ [bldE n d l]
def datF (l : List Fil) : List ByteArray := l.map fun x => x.2.1
theorem blds_len : ∀ (n : Nat) (d : ByteArray) (l : List Fil), Low d l → (bldS n d l).length ≤ l.length * (16 - (splitL d).length)
  | 0, d, l, _ => by simp [bldS]
  | n + 1, d, [], _ => by simp [bldS]
  | n + 1, d, f :: r, h => by
    have gf := h.a.1 f List.mem_cons_self
    have uf := h.u f List.mem_cons_self
    have hdp := low_depth gf uf
    by_cases hw : partH (underB d f.1).1 = (underB d f.1).1
    · have ih := blds_len n d r h.tail
      rw [bldS, if_pos hw, List.length_cons, Nat.add_mul]
      omega
    · obtain ⟨b1, b2, b3⟩ := below_head gf uf hw
      have hpos := belowN_pos (d := jn d (partH (underB d f.1).1)) (f := f) (r := r) b3
      have hle := belowN_le (jn d (partH (underB d f.1).1)) (f :: r)
      have hj := congrArg List.length (jn_parts (d := d) b1 b2)
      rw [List.length_append, List.length_singleton] at hj
      have i1 := blds_len n _ _ (h.into (e := jn d (partH (underB d f.1).1)))
      have i2 := blds_len n d _ (h.drop (belowN (jn d (partH (underB d f.1).1)) (f :: r)))
      rw [bldS, if_neg hw]
      simp only [List.length_append, List.length_singleton]
      rw [hj, List.length_take, Nat.min_eq_left hle] at i1
      rw [List.length_drop] at i2
      generalize belowN (jn d (partH (underB d f.1).1)) (f :: r) = k at *
      generalize (f :: r).length = m at *
      obtain ⟨q, hq⟩ : ∃ q, 16 - (splitL d).length = q + 1 := ⟨15 - (splitL d).length, by omega⟩
      rw [show 16 - ((splitL d).length + 1) = q by omega] at i1
      rw [hq] at i2 ⊢
      obtain ⟨m2, rfl⟩ : ∃ m2, m = k + m2 := ⟨m - k, by omega⟩
      rw [Nat.add_sub_cancel_left] at i2
      rw [Nat.add_mul]
      have : k * (q + 1) = k * q + k := by rw [Nat.mul_add, Nat.mul_one]
      omega
theorem bldt_len {n : Nat} {d : ByteArray} {l : List Fil} (h : Low d l) : (bldT n d l).length ≤ l.length * 16 + 1 := by
  have h1 := blds_len n d l h
  have h2 : l.length * (16 - (splitL d).length) ≤ l.length * 16 := Nat.mul_le_mul_left _ (by omega)
  unfold bldT
  rw [List.length_append, List.length_singleton]
  omega
end Go.Proofs.YtdhaanaenklleaaGreatDoor
namespace Go.Proofs.YtdhaanaenklleaaGreatDoor
set_option linter.unusedVariables false
set_option linter.unusedSimpArgs false
open Go.ChangeShapes Go.WideShapes Go.ChangeAt Go.RowKit

section
variable {ops : Array Oper} {rest : List Oper} {o : Oper} {a : Act} {w : World} {Q : Exit → Act → World → Prop}
theorem wp_out {φ : Value → World → Prop} (hg : o.guard = none) (h : K3.Out Tryz.prog o a.eval w φ) (hK : ∀ v w', φ v w' → wpList Tryz.prog ops Q rest (a.put o.dst v) w') : wpList Tryz.prog ops Q (o :: rest) a w :=
  wpList_plain hg fun K hK' => h.wp fun v w' hφ => hK' _ _ (hK v w' hφ)
theorem wp_run {v : Value} {w' : World} (hg : o.guard = none) (h : (execOp a.eval o).run Tryz.prog w = .ok (.value v) w') (hK : wpList Tryz.prog ops Q rest (a.put o.dst v) w') : wpList Tryz.prog ops Q (o :: rest) a w :=
  wp_out (φ := fun u x => u = v ∧ x = w') hg (K3.out_run h ⟨rfl, rfl⟩) (fun _ _ h => by obtain ⟨rfl, rfl⟩ := h; exact hK)
theorem wp_move (hg : o.guard = none) (x : Operand) (ho : o.op = .move x) (v : Value) (hx : a.eval x = v) (hK : wpList Tryz.prog ops Q rest (a.put o.dst v) w) : wpList Tryz.prog ops Q (o :: rest) a w :=
  wp_out (φ := fun u y => u = v ∧ y = w) hg (K3.out_move ho ⟨hx, rfl⟩) (fun _ _ h => by obtain ⟨rfl, rfl⟩ := h; exact hK)
theorem wp_build {ty : TypeId} {parts : Array (Nat × Operand)} {ps : Array (Nat × Value)} {v : Value} (hg : o.guard = none) (ho : o.op = .build ty parts) (hx : (parts.map fun (i, x) => (i, a.eval x)) = ps) (hr : (Instr.build ty ps).run Tryz.prog w = .ok v w) (hK : wpList Tryz.prog ops Q rest (a.put o.dst v) w) : wpList Tryz.prog ops Q (o :: rest) a w :=
  wp_out (φ := fun u y => u = v ∧ y = w) hg (out_build3 ho hx hr ⟨rfl, rfl⟩) (fun _ _ h => by obtain ⟨rfl, rfl⟩ := h; exact hK)
theorem wp_bslice {ty : TypeId} {n : Nat} {parts : Array (Nat × Operand)} {ps : Array (Nat × Value)} {v : Value} {w' : World} (hg : o.guard = none) (ho : o.op = .buildSlice ty n parts) (hx : (parts.map fun (i, x) => (i, a.eval x)) = ps) (hr : (Instr.buildSlice ty n ps).run Tryz.prog w = .ok v w') (hK : wpList Tryz.prog ops Q rest (a.put o.dst v) w') : wpList Tryz.prog ops Q (o :: rest) a w := by
  refine wp_run hg (v := v) (w' := w') ?_ hK
  unfold execOp
  simp only [ho, hx, Sem.run_bind, Sem.run_pure, Result.andThen_ok, hr]
end
theorem build_ent2 (w : World) (z : ByteArray) (dv : List UInt8) (h : dv.length = 32) :
    (Instr.build 58 #[(0, .string z), (2, .agg (bytV dv).toArray)]).run Tryz.prog w = .ok (.agg (entV (z, false, dv, ())).toArray) w := by
  refine run_build w 58 _ _ ?_
  rw [built_ent]
  have hb : (bytV dv).length = 32 := by rw [bytV_len, h]
  have e : (Value.agg (bytV dv).toArray).cells = (bytV dv).toArray := rfl
  have e1 : (Value.string z).cells = #[.string z] := rfl
  simp only [Instr.fill, e, e1, List.size_toArray, hb]
  simp
  apply Array.ext_getElem?
  intro i
  have hf := foldl_get 2 (bytV dv) 0 (#[.string z, .bool false, .int .u8 0, .int .u8 0, .int .u8 0, .int .u8 0, .int .u8 0, .int .u8 0, .int .u8 0, .int .u8 0, .int .u8 0, .int .u8 0, .int .u8 0, .int .u8 0, .int .u8 0, .int .u8 0, .int .u8 0, .int .u8 0, .int .u8 0, .int .u8 0, .int .u8 0, .int .u8 0, .int .u8 0, .int .u8 0, .int .u8 0, .int .u8 0, .int .u8 0, .int .u8 0, .int .u8 0, .int .u8 0, .int .u8 0, .int .u8 0, .int .u8 0, .int .u8 0] : Array Value) i
  rw [hf]
  rw [hb]
  match i with
  | 0 => simp [entV]
  | 1 => simp [entV]
  | i + 2 =>
    by_cases hi : i < 32
    · rw [if_pos ⟨by omega, by omega, by simp; omega⟩]
      simp [entV]
    · rw [if_neg (by omega), Array.getElem?_eq_none (by simp; omega), List.getElem?_toArray, entV, List.getElem?_cons_succ, List.getElem?_cons_succ, List.getElem?_eq_none (by show (bytV dv).length ≤ i; omega)]
/-- Files in memory, in none of the blocks T. -/
def LatK (T : Nat → Prop) (w : World) (v : Value) (l : List Fil) : Prop := LAt 2 filV w v l ∧ ∀ b o n c, v = .slice (some ⟨b, o, none⟩) n c → l ≠ [] → ¬ T b
theorem LatK.kp {T : Nat → Prop} {w w' : World} {v : Value} {l : List Fil} (h : LatK T w v l) (k : Kp T w w') : LatK T w' v l := by
  obtain ⟨⟨h1, h2⟩, h3⟩ := h
  refine ⟨⟨h1, ?_⟩, h3⟩
  by_cases hl : l = []
  · subst hl
    rcases h2 with h2 | ⟨b, o, c, rfl, hb, hc, hm, hcell⟩
    · exact .inl h2
    · exact .inl ⟨_, _, rfl, rfl⟩
  · rcases h2 with h2 | ⟨b, o, c, rfl, hb, hc, hm, hcell⟩
    · exact .inl h2
    · have hs := k.block b hb (h3 b o _ c rfl hl)
      refine .inr ⟨b, o, c, rfl, Nat.lt_of_lt_of_le hb k.size, hc, hm, fun j x hx => ?_⟩
      have := hcell j x hx
      simpa [World.cell?, hs] using this
theorem LatK.monoT {T T2 : Nat → Prop} {w : World} {v : Value} {l : List Fil} (h : LatK T w v l) (k : ∀ q, T2 q → T q) : LatK T2 w v l := ⟨h.1, fun b o n c e hl ht => h.2 b o n c e hl (k b ht)⟩
/-- What was there is in none of the blocks that are made. -/
theorem LatK.old {T : Nat → Prop} {w : World} {v : Value} {l : List Fil} (h : LatK T w v l) {B : Nat} (hB : w.heap.size ≤ B) : LatK (fun q => T q ∨ B ≤ q) w v l := by
  refine ⟨h.1, fun b o n c e hl ht => ?_⟩
  rcases ht with ht | ht
  · exact h.2 b o n c e hl ht
  · rcases h.1.2 with ⟨_, _, _, h0⟩ | ⟨b2, o2, c2, e2, hb, _⟩
    · exact hl h0
    · rw [e] at e2
      injection e2 with e2
      injection e2 with e2
      injection e2 with e2
      omega
theorem size61 (w1 : World) : (sizeOf 44).run Tryz.prog w1 = .ok 2 w1 := by
  obtain ⟨i0, z, hi, hz0, hz1, _⟩ := eltF.inf
  simp [sizeOf, typeInfo, hi, hz1]
theorem LatK.take {T : Nat → Prop} {w : World} {g o n c : Nat} {l : List Fil} (h : LatK T w (.slice (some ⟨g, o, none⟩) n c) l) (k : Nat) (hk : k ≤ l.length) (hc : l.length ≤ c) :
    (∀ w1, (Instr.slice 22 (.slice (some ⟨g, o, none⟩) n c) none (some (.int .i64 k)) none).run Tryz.prog w1 = .ok (.slice (some ⟨g, o, none⟩) k c) w1) ∧ LatK T w (.slice (some ⟨g, o, none⟩) k c) (l.take k) := by
  have run : ∀ w1, (Instr.slice 22 (.slice (some ⟨g, o, none⟩) n c) none (some (.int .i64 k)) none).run Tryz.prog w1 = .ok (.slice (some ⟨g, o, none⟩) k c) w1 := fun w1 => by
    rw [run_slice_h w1 22 _ _ _ (by rw [eltF.el]; exact eltF.tu) .i64 k (by omega) (by omega), eltF.el, size61]
    simp only [Result.andThen_ok, sliced, Int.toNat_natCast, Nat.zero_mul, Nat.sub_zero]
    have : (if c = 0 then some (⟨g, o, none⟩ : Addr) else (some (⟨g, o, none⟩ : Addr)).map fun x => x.add 0) = some ⟨g, o, none⟩ := by
      split
      · rfl
      · simp [gen_addr_zero]
    rw [this]
  obtain ⟨vt, hr, h0⟩ := gen_take eltF h.1 k hk
  have e := (hr w).symm.trans (run w)
  cases e
  exact ⟨run, h0, fun b o n c e hl => by
    injection e with e
    injection e with e
    injection e with e1 e2
    exact e1 ▸ h.2 g _ _ _ rfl (fun h0 => hl (by rw [h0]; simp))⟩
theorem LatK.drop {T : Nat → Prop} {w : World} {g o n c : Nat} {l : List Fil} (h : LatK T w (.slice (some ⟨g, o, none⟩) n c) l) (k : Nat) (hk : k ≤ l.length) (hn : n = l.length) (hc : n ≤ c) :
    ∃ o', (∀ w1, (Instr.slice 22 (.slice (some ⟨g, o, none⟩) n c) (some (.int .i64 k)) none none).run Tryz.prog w1 = .ok (.slice (some ⟨g, o', none⟩) (n - k) (c - k)) w1) ∧ LatK T w (.slice (some ⟨g, o', none⟩) (n - k) (c - k)) (l.drop k) := by
  obtain ⟨o', ho'⟩ : ∃ o', ∀ w1, (Instr.slice 22 (.slice (some ⟨g, o, none⟩) n c) (some (.int .i64 k)) none none).run Tryz.prog w1 = .ok (.slice (some ⟨g, o', none⟩) (n - k) (c - k)) w1 := by
    refine ⟨if c = k then o else o + k * 2, fun w1 => ?_⟩
    rw [run_slice_l w1 22 _ _ _ (by rw [eltF.el]; exact eltF.tu) .i64 k (by omega) (by omega), eltF.el, size61]
    simp only [Result.andThen_ok, sliced, Int.toNat_natCast, Option.map_some, gen_add_off]
    split <;> rfl
  obtain ⟨vt, hr, h0⟩ := gen_drop eltF h.1 k hk
  have e := (hr w).symm.trans (ho' w)
  cases e
  exact ⟨o', ho', h0, fun b o n c e hl => by
    injection e with e
    injection e with e
    injection e with e1 e2
    exact e1 ▸ h.2 g _ _ _ rfl (fun h0 => hl (by rw [h0]; simp))⟩
theorem LatK.own {T : Nat → Prop} {w : World} {base : Nat} {v : Value} {l : List Fil} (hb : ∀ q, T q → q < base) (h : w.ownsRow base 44 2 v l.length (LF filV l)) : LatK T w v l :=
  ⟨LAt.own (e := 44) (fun x _ => filV_len x) h, fun b o n c e hl ht => by
    rcases h.2 with ⟨hv, h0⟩ | ⟨g, cap, cur, hv, hbg, _⟩
    · exact hl (List.eq_nil_of_length_eq_zero h0)
    · rw [hv] at e
      injection e with e
      injection e with e
      injection e with e
      have := hb b ht
      omega⟩
/-- A list's shape, and its first file's cells. -/
theorem LatK.shape {T : Nat → Prop} {w : World} {v : Value} {l : List Fil} (h : LatK T w v l) : ∃ p n c, v = .slice p n c ∧ n = l.length := by
  rcases h.1.2 with ⟨p, c, rfl, rfl⟩ | ⟨b, o, c, rfl, _⟩
  · exact ⟨p, 0, c, rfl, rfl⟩
  · exact ⟨_, _, c, rfl, rfl⟩
theorem LatK.first {T : Nat → Prop} {w : World} {p : Option Addr} {n c : Nat} {f : Fil} {r : List Fil} (h : LatK T w (.slice p n c) (f :: r)) : ∃ g o, p = some ⟨g, o, none⟩ ∧ n ≤ c ∧ c ≤ 9223372036854775807 ∧ w.cell? ⟨g, o, none⟩ = some (.string f.1) ∧ w.cell? ⟨g, o + 1, none⟩ = some (.string f.2.1) := by
  rcases h.1.2 with ⟨_, _, _, hl⟩ | ⟨g, o, c', e, hb, hc, hm, hcell⟩
  · cases hl
  · injection e with e1 e2 e3
    subst e1; subst e2; subst e3
    exact ⟨g, o, rfl, hc, hm, hcell 0 _ rfl, hcell 1 _ rfl⟩
theorem LatK.rows {T : Nat → Prop} {w : World} {v : Value} {l : List Fil} (h : LatK T w v l) (hz : ∀ x ∈ l, x.1.size ≤ 1073741824 ∧ x.2.1.size ≤ 1073741824) : Rows w 2 filR v l :=
  h.1.rows (fun x hx => filR_of (by have := (hz x hx).1; omega) (by have := (hz x hx).2; omega))
/-- An entry is appended. -/
theorem wp_append_ent {ops : Array Oper} {rest : List Oper} {o : Oper} {a : Act} {w : World} {Q : Exit → Act → World → Prop} (hg : o.guard = none) (s x : Operand) (ho : o.op = .call { callee := .builtin .append, args := #[s, x], argTypes := #[55, 55] }) (hty : o.type = 55) (base : Nat) (v : Value) (E : List Ent) (hs : a.eval s = v) (hown : w.ownsRow base 58 34 v E.length (LF entV E)) (B : Nat) (y : Ent) (hx : a.eval x = .slice (some ⟨B, 0, none⟩) 1 1) (hB : w.heap[B]? = some (.cells (entV y).toArray 58 (0, 0))) (hy : y.2.2.1.length = 32) (hl : E.length ≤ 65536) (hbase : base ≤ w.heap.size)
    (hK : ∀ v' w', w'.ownsRow base 58 34 v' (E ++ [y]).length (LF entV (E ++ [y])) → w.grownBy w' v.ownBlock → (v'.ownBlock = v.ownBlock ∨ v'.ownBlock = some w.heap.size) → wpList Tryz.prog ops Q rest (a.put o.dst v') w') : wpList Tryz.prog ops Q (o :: rest) a w := by
  obtain ⟨i0, z, hi, hz0, hz1, hz2, hzs⟩ := eltE.inf
  have hyl : (entV y).length = 34 := entV_len hy
  obtain ⟨v', w', h1, h2, h3, -, h4⟩ := run_append_own_at (P := Tryz.prog) w base 55 55 58 i0 z 34 _ eltE.tu hi hz0 hz1 hz2 hzs eltE.pos v E.length (LF entV E) hown ⟨B, 0, none⟩ 1 1 (entV y) (by rw [hyl]) (fun j u hj => by
    rw [gen_add_off, block_cell hB, Nat.zero_add, List.getElem?_toArray]; exact hj) (fun u hu => eltE.one y u hu) (by unfold maxLen; omega) (by omega) hbase
  refine wp_run hg (v := v') (w' := w') ?_ (hK v' w' (by rw [List.length_append, LF_app, LF_one]; exact h2) h3 h4)
  unfold execOp
  simp only [ho, hty, resolve, invoke, builtin, Sem.run_bind, Sem.run_pure, Result.andThen_ok, List.map_toArray, List.map_cons, List.map_nil, hs, hx, h1]
end Go.Proofs.YtdhaanaenklleaaGreatDoor
namespace Go.Proofs.YtdhaanaenklleaaGreatDoor
set_option linter.unusedVariables false
set_option linter.unusedSimpArgs false
open Go.ChangeShapes Go.WideShapes Go.ChangeAt Go.RowKit

section
variable {ops : Array Oper} {rest : List Oper} {o : Oper} {a : Act} {w : World} {Q : Exit → Act → World → Prop}
theorem run_sliceAt (t : TypeId) (e : TypeId) (ht : Tryz.prog.underlying t = some (.slice e)) (x : Value) (lo hi mx : Option Value) (w : World) : (Instr.sliceAt t x lo hi mx).run Tryz.prog w = (Instr.slice t x lo hi mx).run Tryz.prog w := by
  unfold Instr.sliceAt
  simp [run_underlying ht]
theorem wp_slice {t e : TypeId} (ht : Tryz.prog.underlying t = some (.slice e)) {lo hi : Option Operand} (hg : o.guard = none) (x : Operand) (ho : o.op = .slice t x lo hi none) (u : Value) (hx : a.eval x = u) (lov hiv : Option Value) (hlo : lo.map a.eval = lov) (hhi : hi.map a.eval = hiv) (v : Value)
    (hr : (Instr.slice t u lov hiv none).run Tryz.prog w = .ok v w) (hK : wpList Tryz.prog ops Q rest (a.put o.dst v) w) : wpList Tryz.prog ops Q (o :: rest) a w := by
  refine wp_run hg (v := v) (w' := w) ?_ hK
  unfold execOp
  simp only [ho, hx, hlo, hhi, Option.map_none, Sem.run_bind, Sem.run_pure, Result.andThen_ok, run_sliceAt t e ht, hr]
end
theorem split_first {w' : World} {base : Nat} {v : Value} {s : ByteArray} (hs : some1 s = true) (h : w'.ownsRow base 9 1 v (splitL s).length ((splitL s).map Value.string)) :
    ∃ g n cap, v = .slice (some ⟨g, 0, none⟩) n cap ∧ 0 < n ∧ n ≤ cap ∧ cap ≤ 9223372036854775807 ∧ w'.cell? ⟨g, 0, none⟩ = some (.string (partH s)) := by
  obtain ⟨r, hr, -⟩ := partH_head hs
  rcases h.2 with ⟨hv, hn⟩ | ⟨g, cap, cur, hv, _, hg, hcap, hmax, hsz, htake⟩
  · rw [hr] at hn; simp at hn
  · refine ⟨g, _, cap, hv, by rw [hr]; simp, hcap, hmax, ?_⟩
    rw [block_cell hg]
    have h1 : (cur.toList.take ((splitL s).length * 1))[0]? = some (.string (partH s)) := by
      rw [htake, hr]; rfl
    rw [List.getElem?_take_of_lt (by rw [hr]; simp), Array.getElem?_toList] at h1
    exact h1
theorem under_size {d p : ByteArray} (hp : some1 p = true) (h : (underB d p).2 = true) : (underB d p).1.size ≤ p.size := by
  have h2 := under_spec (a := d) (p := p) (r := (underB d p).1) (by rw [← h]) hp
  have hr := under_some hp h
  cases hd : some1 d with
  | false => rw [jn_right hd hr] at h2; rw [h2]; exact Nat.le_refl _
  | true =>
    rw [jn_two hd hr] at h2
    have := congrArg ByteArray.size h2
    rw [app_size] at this
    omega
theorem good_size {p : ByteArray} (h : goodB p = true) : p.size ≤ 128 := by
  unfold goodB at h
  rw [Bool.and_eq_true, Bool.and_eq_true, decide_eq_true_iff] at h
  exact h.1.1
def BldEnd (T X : Nat → Prop) (b : Nat) (fc : List UInt8 → Option Value) (nc : Nat) (AB : List ByteArray) (AT : List (List Ent)) (nb nt N : Nat) (d : ByteArray) (l : List Fil) (w : World) (e : Ending) (w' : World) : Prop :=
  e = .returned (.agg (bytV (tid (treeB (bldE N d l)))).toArray) ∧ ∃ nb' nt', Hav T X b fc nc (AB ++ datF l) (AT ++ bldT N d l) nb' nt' w' ∧ Grow AB AT nb nt (datF l) (bldT N d l) nb' nt' ∧ Kp T w w'
/-- Where Build's loop stands: k files are done. -/
structure BAt (T X : Nat → Prop) (b : Nat) (fc : List UInt8 → Option Value) (nc : Nat) (AB : List ByteArray) (AT : List (List Ent)) (nb nt N : Nat) (d : ByteArray) (l : List Fil) (g0 : Nat) (w1 : World) (g : Nat) (lv ev : Value) (wr : World) : Prop where
  x : ∃ (k m nb1 nt1 : Nat) (E : List Ent) (Sx : List (List Ent)), k + g = l.length ∧ m ≤ N ∧ g + (17 - (splitL d).length) ≤ m ∧ Low d (l.drop k) ∧ bldE N d l = E ++ bldE m d (l.drop k) ∧ bldS N d l = Sx ++ bldS m d (l.drop k) ∧ E.length ≤ k ∧
    LatK (fun q => T q ∨ w1.heap.size ≤ q) wr lv (l.drop k) ∧ wr.ownsRow w1.heap.size 58 34 ev E.length (LF entV E) ∧ Hav T (fun q => (X q ∨ q = g0) ∨ ev.ownBlock = some q) b fc nc (AB ++ datF (l.take k)) (AT ++ Sx) nb1 nt1 wr ∧ Grow AB AT nb nt (datF (l.take k)) Sx nb1 nt1 ∧ Kp (fun q => T q ∨ w1.heap.size ≤ q) w1 wr
theorem data_next {l : List Fil} {k : Nat} {f : Fil} {r : List Fil} (h : l.drop k = f :: r) : datF (l.take (k + 1)) = datF (l.take k) ++ [f.2.1] ∧ l.drop (k + 1) = r := by
  have hk : k < l.length := by
    rcases Nat.lt_or_ge k l.length with h1 | h1
    · exact h1
    · rw [List.drop_eq_nil_of_le h1] at h; cases h
  rw [List.drop_eq_getElem_cons hk] at h
  injection h with h1 h2
  unfold datF
  rw [List.take_succ_eq_append_getElem hk, List.map_append, h1]
  exact ⟨rfl, h2⟩
theorem data_more {l : List Fil} {k j : Nat} : datF (l.take (k + j)) = datF (l.take k) ++ datF ((l.drop k).take j) := by
  unfold datF
  rw [List.take_add, List.map_append]
theorem Kp.grown {T : Nat → Prop} {w w' : World} {g : Option Nat} (h : w.grownBy w' g) (k : ∀ q, g = some q → T q) : Kp T w w' := ⟨h.os, h.tape, h.output, h.size, fun q hq hn => h.block q hq (fun e => hn (k q e.symm))⟩
theorem Kp.setRow {T : Nat → Prop} {w w4 : World} {g : Nat} {R : Array Value} (h : Kp T w w4) (hg : w.heap.size ≤ g) : Kp T w (w4.setRow g R) :=
  ⟨h.os, h.tape, h.output, by simp [World.setRow]; exact h.size, fun q hq hn => (setRow_other _ _ _ _ (by omega)).trans (h.block q hq hn)⟩
theorem wp_call {ops : Array Oper} {rest : List Oper} {o : Oper} {a : Act} {w : World} {Q : Exit → Act → World → Prop} (hg : o.guard = none) (f : FuncId) (xs : Array Operand) (ts : Array TypeId) (ho : o.op = .call { callee := .value (.func f), args := xs, argTypes := ts }) (args : Array Value) (hen : ∀ (args : Array Value) (w : World), (callFunc f args).run Tryz.prog w = .ok (.enter f args) w) (hx : xs.map a.eval = args) {φ : Value → World → Prop}
    (hC : Calls Tryz.prog f args w fun e w'' => ∃ v, e = .returned v ∧ φ v w'') (hK : ∀ v w', φ v w' → wpList Tryz.prog ops Q rest (a.put o.dst v) w') : wpList Tryz.prog ops Q (o :: rest) a w := by
  refine wp_out hg (K3.out_call (f := f) (args := args) ?_ hC) hK
  have kf : a.eval (.func f) = .func (.func f) #[] #[] := rfl
  generalize a.eval = ρ at *
  simp [execOp, ho, kf, hx, hen, go_sem]
theorem own_kp {T : Nat → Prop} {w w' : World} {base e s : Nat} {v : Value} {n : Nat} {xs : List Value} (h : w.ownsRow base e s v n xs) (hb : ∀ q, T q → q < base) (hk : Kp T w w') : w'.ownsRow base e s v n xs :=
  own_same h (fun q h1 h2 _ => hk.block q h2 (fun ht => by have := hb q ht; omega))
theorem kp_back {T : Nat → Prop} {w w1 wr : World} (h0 : Kp T w w1) (h : Kp (fun q => T q ∨ w1.heap.size ≤ q) w1 wr) : Kp T w wr :=
  ⟨h.os.trans h0.os, h.tape.trans h0.tape, h.output.trans h0.output, Nat.le_trans h0.size h.size, fun q hq hn => (h.block q (Nat.lt_of_lt_of_le hq h0.size) (fun x => by
    rcases x with x | x
    · exact hn x
    · have := h0.size; omega)).trans (h0.block q hq hn)⟩
set_option maxRecDepth 100000 in
set_option maxHeartbeats 12000000 in
theorem build67_any : ∀ (N : Nat) {T X : Nat → Prop} {b nc nb nt : Nat} {fc : List UInt8 → Option Value} {AB : List ByteArray} {AT : List (List Ent)} (d : ByteArray) (l : List Fil) (v : Value) {w : World}
    (h : Hav T X b fc nc AB AT nb nt w) (hK : S.KeysAt w) (hM : MaxAt w) (hv : LatK T w v l) (hL : Low d l) (hN : l.length + (17 - (splitL d).length) ≤ N) (hl : l.length ≤ 60) (hs : ∀ x ∈ l, x.2.1.size ≤ 4096) (hnb : nb + l.length ≤ 1048576) (hnt : nt + (bldT N d l).length ≤ 1048576) (hd : d.size ≤ 200 * (splitL d).length),
    Calls Tryz.prog 41 #[.pointer (some ⟨b, 0, none⟩), .string d, v] w (BldEnd T X b fc nc AB AT nb nt N d l w) := by
  intro N
  induction N using Nat.strongRecOn with
  | ind N ih =>
    intro T X b nc nb nt fc AB AT d l v w h hK hM hv hL hN hl hs hnb hnt hd
    have hT := h.lt
    have hb0 : (w.alloc (.cells #[.int .u8 0, .int .u8 0, .int .u8 0, .int .u8 0, .int .u8 0, .int .u8 0, .int .u8 0, .int .u8 0, .int .u8 0, .int .u8 0, .int .u8 0, .int .u8 0, .int .u8 0, .int .u8 0, .int .u8 0, .int .u8 0, .int .u8 0, .int .u8 0, .int .u8 0, .int .u8 0, .int .u8 0, .int .u8 0, .int .u8 0, .int .u8 0, .int .u8 0, .int .u8 0, .int .u8 0, .int .u8 0, .int .u8 0, .int .u8 0, .int .u8 0, .int .u8 0] 32)).heap.size = w.heap.size + 1 := by simp
    have hB0 := (Below.refl w.heap.size w).alloc (Nat.le_refl _) (.cells #[.int .u8 0, .int .u8 0, .int .u8 0, .int .u8 0, .int .u8 0, .int .u8 0, .int .u8 0, .int .u8 0, .int .u8 0, .int .u8 0, .int .u8 0, .int .u8 0, .int .u8 0, .int .u8 0, .int .u8 0, .int .u8 0, .int .u8 0, .int .u8 0, .int .u8 0, .int .u8 0, .int .u8 0, .int .u8 0, .int .u8 0, .int .u8 0, .int .u8 0, .int .u8 0, .int .u8 0, .int .u8 0, .int .u8 0, .int .u8 0, .int .u8 0, .int .u8 0] 32)
    have hnew := heap_alloc_new w (.cells #[.int .u8 0, .int .u8 0, .int .u8 0, .int .u8 0, .int .u8 0, .int .u8 0, .int .u8 0, .int .u8 0, .int .u8 0, .int .u8 0, .int .u8 0, .int .u8 0, .int .u8 0, .int .u8 0, .int .u8 0, .int .u8 0, .int .u8 0, .int .u8 0, .int .u8 0, .int .u8 0, .int .u8 0, .int .u8 0, .int .u8 0, .int .u8 0, .int .u8 0, .int .u8 0, .int .u8 0, .int .u8 0, .int .u8 0, .int .u8 0, .int .u8 0, .int .u8 0] 32)
    have HH := h.below hB0
    have HKp0 := Lib.hid (Kp.of_below (T := T) hB0)
    have HT := Lib.hid (fun q (hq : T q) => ((hT q hq).2 : q < w.heap.size))
    have HT1 := Lib.hid (fun q (hq : T q) => ((hT q hq).1 : 1 < q))
    have HT2 := Lib.hid (show ∀ q, T q ∨ (w.alloc (.cells #[.int .u8 0, .int .u8 0, .int .u8 0, .int .u8 0, .int .u8 0, .int .u8 0, .int .u8 0, .int .u8 0, .int .u8 0, .int .u8 0, .int .u8 0, .int .u8 0, .int .u8 0, .int .u8 0, .int .u8 0, .int .u8 0, .int .u8 0, .int .u8 0, .int .u8 0, .int .u8 0, .int .u8 0, .int .u8 0, .int .u8 0, .int .u8 0, .int .u8 0, .int .u8 0, .int .u8 0, .int .u8 0, .int .u8 0, .int .u8 0, .int .u8 0, .int .u8 0] 32)).heap.size ≤ q → 1 < q from fun q hq => by
      rcases hq with hq | hq
      · exact (hT q hq).1
      · have := hM.1; omega)
    have HK1 := Lib.hid (KeysAt.kp hK HKp0.out (fun q hq => (hT q hq).1))
    have HM1 := Lib.hid (MaxAt.kp hM HKp0.out (fun q hq => (hT q hq).1))
    have HV1 := Lib.hid ((hv.old (B := (w.alloc (.cells #[.int .u8 0, .int .u8 0, .int .u8 0, .int .u8 0, .int .u8 0, .int .u8 0, .int .u8 0, .int .u8 0, .int .u8 0, .int .u8 0, .int .u8 0, .int .u8 0, .int .u8 0, .int .u8 0, .int .u8 0, .int .u8 0, .int .u8 0, .int .u8 0, .int .u8 0, .int .u8 0, .int .u8 0, .int .u8 0, .int .u8 0, .int .u8 0, .int .u8 0, .int .u8 0, .int .u8 0, .int .u8 0, .int .u8 0, .int .u8 0, .int .u8 0, .int .u8 0] 32)).heap.size) (by omega)).kp (Kp.of_below hB0))
    have Hs := Lib.hid hs
    have HL := Lib.hid hL
    have Hnt := Lib.hid hnt
    have Hih := Lib.hid ih
    have Hd := Lib.hid hd
    have HSt := Lib.hid (show BAt T X b fc nc AB AT nb nt N d l w.heap.size (w.alloc (.cells #[.int .u8 0, .int .u8 0, .int .u8 0, .int .u8 0, .int .u8 0, .int .u8 0, .int .u8 0, .int .u8 0, .int .u8 0, .int .u8 0, .int .u8 0, .int .u8 0, .int .u8 0, .int .u8 0, .int .u8 0, .int .u8 0, .int .u8 0, .int .u8 0, .int .u8 0, .int .u8 0, .int .u8 0, .int .u8 0, .int .u8 0, .int .u8 0, .int .u8 0, .int .u8 0, .int .u8 0, .int .u8 0, .int .u8 0, .int .u8 0, .int .u8 0, .int .u8 0] 32)) l.length v (.slice none 0 0) (w.alloc (.cells #[.int .u8 0, .int .u8 0, .int .u8 0, .int .u8 0, .int .u8 0, .int .u8 0, .int .u8 0, .int .u8 0, .int .u8 0, .int .u8 0, .int .u8 0, .int .u8 0, .int .u8 0, .int .u8 0, .int .u8 0, .int .u8 0, .int .u8 0, .int .u8 0, .int .u8 0, .int .u8 0, .int .u8 0, .int .u8 0, .int .u8 0, .int .u8 0, .int .u8 0, .int .u8 0, .int .u8 0, .int .u8 0, .int .u8 0, .int .u8 0, .int .u8 0, .int .u8 0] 32)) from
      ⟨0, N, nb, nt, [], [], by omega, Nat.le_refl _, hN, hL, rfl, rfl, Nat.le_refl _, HV1.out, ⟨rfl, .inl ⟨rfl, rfl⟩⟩, by simpa [datF] using HH.monoX (X2 := fun q => (X q ∨ q = w.heap.size) ∨ (Value.slice none 0 0).ownBlock = some q) (fun q hq => by
        rcases hq with (hq | hq) | hq
        · exact .inl hq
        · exact .inr ⟨by omega, by omega⟩
        · cases hq), Grow.refl _ _ _ _, Kp.refl _ _⟩)
    have Hnew := Lib.hid hnew
    clear h hK hM hv hT hnew HH hs hnt ih hB0 HV1 hL hN hd
    go_enter Tryz.func41, Tryz.ntmps41
    go_wp2_with fail
    generalize w.alloc (.cells #[.int .u8 0, .int .u8 0, .int .u8 0, .int .u8 0, .int .u8 0, .int .u8 0, .int .u8 0, .int .u8 0, .int .u8 0, .int .u8 0, .int .u8 0, .int .u8 0, .int .u8 0, .int .u8 0, .int .u8 0, .int .u8 0, .int .u8 0, .int .u8 0, .int .u8 0, .int .u8 0, .int .u8 0, .int .u8 0, .int .u8 0, .int .u8 0, .int .u8 0, .int .u8 0, .int .u8 0, .int .u8 0, .int .u8 0, .int .u8 0, .int .u8 0, .int .u8 0] 32) = w1 at *
    have Hb0 := Lib.hid hb0
    clear hb0
    go_loopg [2, 7] l.length (fun g lv ev wr => BAt T X b fc nc AB AT nb nt N d l w.heap.size w1 g lv ev wr)
    case atStart => exact HSt.out
    case round =>
      clear HSt
      obtain ⟨k, m, nb1, nt1, E, Sx, hkg, hmN, hm, hLow, hE, hS, hEl, hlv, hev, hH, hG, hKp⟩ := hrel.x
      clear hrel
      have HKr := Lib.hid (KeysAt.kp HK1.out hKp HT2.out)
      have HMr := Lib.hid (MaxAt.kp HM1.out hKp HT2.out)
      have Hev := Lib.hid hev
      have HH := Lib.hid hH
      have HG := Lib.hid hG
      have HKp := Lib.hid hKp
      have Hres := Lib.hid ((hKp.block w.heap.size (by have := Hb0.out; omega) (fun hq => by
        rcases hq with hq | hq
        · have := HT.out _ hq; omega
        · have := Hb0.out; omega)).trans Hnew.out)
      have Hsz := Lib.hid (hKp.size)
      obtain ⟨p, n, c, rfl, hn⟩ := hlv.shape
      cases hdr : l.drop k with
      | nil =>
        rw [hdr] at hE hS hn
        have hk : l.length ≤ k := by
          have := congrArg List.length hdr
          rw [List.length_drop] at this
          simp at this; omega
        have hE2 : bldE N d l = E := by rw [hE]; cases m <;> simp [bldE]
        have hS2 : bldS N d l = Sx := by rw [hS]; cases m <;> simp [bldS]
        rw [List.take_of_length_le hk] at hH hG
        have hgood := bld_good N HL.out (by omega)
        have htxt := bld_text N HL.out (by omega)
        have hshort := bld_short N HL.out
        have hids := bld_ids N d l
        have hntb := Hnt.out
        have hgl := hG.lt
        unfold bldT at hntb
        rw [hS2, List.length_append, List.length_singleton] at hntb
        have HE2 := Lib.hid hE2
        have HS2 := Lib.hid hS2
        rw [hE2] at hgood htxt hshort hids
        have HP := Lib.hid (hav_tree hH HKr.out HMr.out u7 E (LAt.own (e := 58) (fun x hx => entV_len (hids x hx)) hev) (fun x hx => ⟨by have := hshort x hx; omega, hids x hx⟩) (by omega) htxt (by omega) hgood)
        have HG3 := Lib.hid hG
        obtain ⟨R, hR⟩ : ∃ R, R = (bytV (tid (treeB E))).toArray := ⟨_, rfl⟩
        have HR := Lib.hid hR
        have Hz := Lib.hid (show (Tryz.prog.info? 32).map (·.size) = some R.size by rw [hR]; exact id_size (tid_len _))
        have Hone := Lib.hid (show R.all (·.oneCell') = true by rw [hR]; exact id_one _)
        have Hs32 := Lib.hid (show R.size = 32 by rw [hR, List.size_toArray, bytV_len, tid_len])
        rw [← hR] at HP
        obtain rfl : n = 0 := hn
        clear hR hgood htxt hshort hids hntb hgl hE hS hE2 hS2 hev hH hG hKp hlv hdr hLow
        go_wp2_with fail
        refine HP.out.mono ?_
        rintro e w2 ⟨rfl, nt2, hH2, hG2, hK2⟩
        have HH2 := Lib.hid hH2
        have HG2 := Lib.hid hG2
        have HK2 := Lib.hid hK2
        have Hres2 := Lib.hid ((hK2.block w.heap.size (by have := Hsz.out; have := Hb0.out; omega) (fun hq => by have := HT.out _ hq; omega)).trans Hres.out)
        clear hH2 hG2 hK2
        go_upto_region 14 with (first | (refine wpList_store_rowTo rfl 32 (.tmp 15) (.tmp 78) rfl rfl w2.heap.size R rfl rfl 32 _ (heap_alloc_new w2 _) Hz.out (by rw [Hs32.out]; rfl) Hone.out ?_))
        have hB4 := below_setRow ((Below.refl w2.heap.size w2).alloc (Nat.le_refl _) (.cells #[.int .u8 0, .int .u8 0, .int .u8 0, .int .u8 0, .int .u8 0, .int .u8 0, .int .u8 0, .int .u8 0, .int .u8 0, .int .u8 0, .int .u8 0, .int .u8 0, .int .u8 0, .int .u8 0, .int .u8 0, .int .u8 0, .int .u8 0, .int .u8 0, .int .u8 0, .int .u8 0, .int .u8 0, .int .u8 0, .int .u8 0, .int .u8 0, .int .u8 0, .int .u8 0, .int .u8 0, .int .u8 0, .int .u8 0, .int .u8 0, .int .u8 0, .int .u8 0] 32)) (g := w2.heap.size) (Nat.le_refl _) R
        have hG4 := setRow_heap (w2.alloc (.cells #[.int .u8 0, .int .u8 0, .int .u8 0, .int .u8 0, .int .u8 0, .int .u8 0, .int .u8 0, .int .u8 0, .int .u8 0, .int .u8 0, .int .u8 0, .int .u8 0, .int .u8 0, .int .u8 0, .int .u8 0, .int .u8 0, .int .u8 0, .int .u8 0, .int .u8 0, .int .u8 0, .int .u8 0, .int .u8 0, .int .u8 0, .int .u8 0, .int .u8 0, .int .u8 0, .int .u8 0, .int .u8 0, .int .u8 0, .int .u8 0, .int .u8 0, .int .u8 0] 32)) w2.heap.size _ R 32 (0, 0) (heap_alloc_new w2 _)
        generalize (w2.alloc (.cells #[.int .u8 0, .int .u8 0, .int .u8 0, .int .u8 0, .int .u8 0, .int .u8 0, .int .u8 0, .int .u8 0, .int .u8 0, .int .u8 0, .int .u8 0, .int .u8 0, .int .u8 0, .int .u8 0, .int .u8 0, .int .u8 0, .int .u8 0, .int .u8 0, .int .u8 0, .int .u8 0, .int .u8 0, .int .u8 0, .int .u8 0, .int .u8 0, .int .u8 0, .int .u8 0, .int .u8 0, .int .u8 0, .int .u8 0, .int .u8 0, .int .u8 0, .int .u8 0] 32)).setRow w2.heap.size R = w4 at *
        have HB4 := Lib.hid hB4
        have HG4 := Lib.hid hG4
        have HCs := Lib.hid ((hB4.block _ (lt_of_block Hres2.out)).trans Hres2.out)
        clear hB4 hG4
        go_wp2_with (first | (refine wpList_load_row rfl 32 (.tmp 15) rfl w2.heap.size rfl 32 R (0, 0) _ HG4.out Tryz.underlying32 rfl Hz.out ?_) | (refine wpList_store_rowTo rfl 32 (.tmp 6) (.tmp 80) rfl rfl w.heap.size R rfl rfl 32 #[.int .u8 0, .int .u8 0, .int .u8 0, .int .u8 0, .int .u8 0, .int .u8 0, .int .u8 0, .int .u8 0, .int .u8 0, .int .u8 0, .int .u8 0, .int .u8 0, .int .u8 0, .int .u8 0, .int .u8 0, .int .u8 0, .int .u8 0, .int .u8 0, .int .u8 0, .int .u8 0, .int .u8 0, .int .u8 0, .int .u8 0, .int .u8 0, .int .u8 0, .int .u8 0, .int .u8 0, .int .u8 0, .int .u8 0, .int .u8 0, .int .u8 0, .int .u8 0] HCs.out Hz.out (by rw [Hs32.out]; rfl) Hone.out ?_))
        have hfin := setRow_heap w4 w.heap.size #[.int .u8 0, .int .u8 0, .int .u8 0, .int .u8 0, .int .u8 0, .int .u8 0, .int .u8 0, .int .u8 0, .int .u8 0, .int .u8 0, .int .u8 0, .int .u8 0, .int .u8 0, .int .u8 0, .int .u8 0, .int .u8 0, .int .u8 0, .int .u8 0, .int .u8 0, .int .u8 0, .int .u8 0, .int .u8 0, .int .u8 0, .int .u8 0, .int .u8 0, .int .u8 0, .int .u8 0, .int .u8 0, .int .u8 0, .int .u8 0, .int .u8 0, .int .u8 0] R 32 (0, 0) HCs.out
        have hKfin : Kp T w w4 := (kp_back HKp0.out HKp.out).trans (HK2.out.trans (Kp.of_below HB4.out))
        · refine bodyPost_ret (v := .agg R) (results_cell_row (fr := (0, 0)) rfl _ _ w.heap.size 32 _ _ rfl hfin Tryz.underlying32 rfl Hz.out) rfl ?_
          refine ⟨by rw [HE2.out, HR.out], nb1, nt2, ?_, ?_, hKfin.setRow (Nat.le_refl _)⟩
          · have h9 := (HH2.out.below0 HB4.out).turn (w' := w4.setRow w.heap.size R) w.heap.size (fun hq => by have := HT.out _ hq; omega) (.inl (.inr rfl)) (by simp [World.setRow]) (fun q hq hne => setRow_other _ _ _ _ hne)
            unfold bldT
            rw [HE2.out, HS2.out, ← List.append_assoc]
            exact h9.monoX (fun q hq => .inl (.inl hq))
          · have h9 := HG3.out.trans HG2.out
            unfold bldT
            rw [HE2.out, HS2.out]
            simpa using h9
      | cons f r =>
        rw [hdr] at hLow hE hS hlv hn
        obtain ⟨g1, o1, rfl, hnc, hcmax, hc0, hc1⟩ := hlv.first
        have hnr : n = r.length + 1 := hn
        have hrl : r.length + 1 + k = l.length := by
          have := congrArg List.length hdr
          rw [List.length_drop] at this
          simp only [List.length_cons] at this
          omega
        have gf := hLow.a.1 f List.mem_cons_self
        have uf := hLow.u f List.mem_cons_self
        have hdp := low_depth gf uf
        have hfl : f ∈ l := List.mem_of_mem_drop (i := k) (by rw [hdr]; exact List.mem_cons_self)
        have hds := Hs.out f hfl
        have hps := good_size gf
        obtain ⟨hdn1, hdn2⟩ := data_next hdr
        have hws := under_some (good_some gf) uf
        have hwz := under_size (good_some gf) uf
        obtain ⟨m', rfl⟩ : ∃ m', m = m' + 1 := ⟨m - 1, by omega⟩
        have hbh := below_head gf uf
        have hpz : (partH (underB d f.1).1).size ≤ 128 := name_size (name_hdP gf uf)
        have Hfs := Lib.hid (show ∀ x ∈ f :: r, x.1.size ≤ 1073741824 ∧ x.2.1.size ≤ 1073741824 from fun x hx => ⟨by have := good_size (hLow.a.1 x hx); omega, by have := Hs.out x (List.mem_of_mem_drop (i := k) (by rw [hdr]; exact hx)); omega⟩)
        have Hfs4 := Lib.hid (show ∀ x ∈ f :: r, x.2.1.size ≤ 4096 from fun x hx => Hs.out x (List.mem_of_mem_drop (i := k) (by rw [hdr]; exact hx)))
        have Hdr := Lib.hid hdr
        have HLow := Lib.hid hLow
        have Hlv := Lib.hid hlv
        have HnA := Lib.hid hnr
        have Hrl := Lib.hid hrl
        have Hkg := Lib.hid hkg
        have Hdn1 := Lib.hid hdn1
        have Hdn2 := Lib.hid hdn2
        have hEf := Lib.hid (fun (hw : partH (underB d f.1).1 = (underB d f.1).1) => (show bldE N d l = (E ++ [(partH (underB d f.1).1, false, bid f.2.1, ())]) ++ bldE m' d r ∧ bldS N d l = Sx ++ bldS m' d r by
          rw [hE, hS, bldE, bldS, if_pos hw, if_pos hw]; simp))
        have hEd := Lib.hid (fun (hw : ¬ partH (underB d f.1).1 = (underB d f.1).1) => (show bldE N d l = (E ++ [(partH (underB d f.1).1, true, tid (treeB (bldE m' (jn d (partH (underB d f.1).1)) ((f :: r).take (belowN (jn d (partH (underB d f.1).1)) (f :: r))))), ())]) ++ bldE m' d ((f :: r).drop (belowN (jn d (partH (underB d f.1).1)) (f :: r))) ∧
            bldS N d l = (Sx ++ bldT m' (jn d (partH (underB d f.1).1)) ((f :: r).take (belowN (jn d (partH (underB d f.1).1)) (f :: r)))) ++ bldS m' d ((f :: r).drop (belowN (jn d (partH (underB d f.1).1)) (f :: r))) by
          rw [hE, hS, bldE, bldS, if_neg hw, if_neg hw]; unfold bldT; simp))
        have Hbh := Lib.hid hbh
        have hltI : (0 : Int) < (n : Int) := by omega
        have HU := Lib.hid (fun w1 => under_any d f.1 w1)
        unfold Under2 at HU
        obtain ⟨mm, hmm⟩ := HMr.out.2
        obtain ⟨way, hway⟩ : ∃ y, y = (underB d f.1).1 := ⟨_, rfl⟩
        obtain ⟨ub, hub⟩ : ∃ y, y = (underB d f.1).2 := ⟨_, rfl⟩
        rw [← hway, ← hub] at HU
        rw [← hway] at hws hwz hEf hEd Hbh hpz
        have hwz2 : way.size ≤ 1073741824 := by omega
        have HP5 := Lib.hid (psplit_any way mm wr hwz2 hmm)
        have Hws := Lib.hid hws
        have Hway := Lib.hid hway
        have Hf2 := Lib.hid hds
        have Hps := Lib.hid hps
        have Hm := Lib.hid hm
        clear hway hub hbh hdn1 hdn2 hLow hlv hrl hE hS gf uf hfl hds hps hdr hws hwz hmm hev hH hG hKp hn hm hnr
        obtain ⟨z, hz⟩ : ∃ y, y = f.1 := ⟨_, rfl⟩
        obtain ⟨dt, hdt⟩ : ∃ y, y = f.2.1 := ⟨_, rfl⟩
        rw [← hz] at hc0 HU Hbh Hps Hway
        rw [← hdt] at hc1 hEf Hf2 Hdn1
        have HZz := Lib.hid hz
        clear hz hdt
        go_wp2_with fail
        refine (HU.out _).mono ?_
        rintro e w2 ⟨rfl, hw2⟩
        subst hw2
        go_wp2_with fail
        refine HP5.out.mono ?_
        rintro e w2 ⟨vv, rfl, hown, hB⟩
        obtain ⟨g2, n2, c2, rfl, h20, h2c, h2m, hc2⟩ := split_first Hws.out hown
        obtain ⟨part, hpart⟩ : ∃ y, y = partH way := ⟨_, rfl⟩
        rw [← hpart] at hc2 hEf hEd Hbh hpz
        have Hpart := Lib.hid hpart
        have hd1 := (hB.cell (p := ⟨g1, o1 + 1, none⟩) (by have := World.block_lt_of_cell? wr _ hc1; exact this)).trans hc1
        have HKw := Lib.hid (KeysAt.kp HKr.out (Kp.of_below (T := T) hB) HT1.out)
        have HMw := Lib.hid (MaxAt.kp HMr.out (Kp.of_below (T := T) hB) HT1.out)
        have HHw := Lib.hid (HH.out.below0 hB)
        have Hevw := Lib.hid (gen_own_below Hev.out hB)
        have Hlvw := Lib.hid (Hlv.out.kp (Kp.of_below hB))
        have HKpw := Lib.hid (HKp.out.trans (Kp.of_below hB))
        have Hszw := Lib.hid hB.size
        have hnbw : nb1 ≤ 1048576 := by have := HG.out.lb; have h9 : (datF (l.take k)).length ≤ k := by unfold datF; rw [List.length_map, List.length_take]; omega
                                        omega
        clear hpart hown hB HKr HMr HH Hev Hlv HKp HP5 HU hc0 hc1
        by_cases hpw : part = way
        · have hq : (part.toList == way.toList) = true := beq_of hpw
          obtain ⟨hE3, hS3⟩ := hEf.out hpw
          have HE3 := Lib.hid hE3
          have HS3 := Lib.hid hS3
          clear hE3 hS3 hEf hEd Hbh hpw
          have HPB := Lib.hid (hav_blob HHw.out HKw.out dt Hf2.out hnbw)
          obtain ⟨idv, hidv⟩ : ∃ y, y = bid dt := ⟨_, rfl⟩
          have Hil := Lib.hid (show idv.length = 32 by rw [hidv]; exact bid_len _)
          rw [← hidv] at HPB HE3
          clear hidv
          have Hz := Lib.hid (id_size Hil.out)
          have Hone := Lib.hid (id_one idv)
          have Hs32 := Lib.hid (show (bytV idv).toArray.size = 32 by rw [List.size_toArray, bytV_len, Hil.out])
          go_wp2_with fail
          refine HPB.out.mono ?_
          rintro e w3 ⟨rfl, nb2, hH3, hG3, hK3⟩
          have HH3 := Lib.hid hH3
          have HG3 := Lib.hid hG3
          have HK3 := Lib.hid hK3
          have Hev3 := Lib.hid (own_kp Hevw.out (fun q hq => by have := HT.out q hq; have := Hb0.out; omega) hK3)
          have Hlv3 := Lib.hid (Hlvw.out.kp (hK3.mono (fun q hq => .inl hq)))
          clear hH3 hG3 hK3 HPB
          go_upto_region 7 with (first | (refine wpList_store_rowTo rfl 32 (.tmp 11) (.tmp 43) rfl rfl w3.heap.size (bytV idv).toArray rfl rfl 32 _ (heap_alloc_new w3 _) Hz.out (by rw [Hs32.out]; rfl) Hone.out ?_))
          have hB4 := below_setRow ((Below.refl w3.heap.size w3).alloc (Nat.le_refl _) (.cells #[.int .u8 0, .int .u8 0, .int .u8 0, .int .u8 0, .int .u8 0, .int .u8 0, .int .u8 0, .int .u8 0, .int .u8 0, .int .u8 0, .int .u8 0, .int .u8 0, .int .u8 0, .int .u8 0, .int .u8 0, .int .u8 0, .int .u8 0, .int .u8 0, .int .u8 0, .int .u8 0, .int .u8 0, .int .u8 0, .int .u8 0, .int .u8 0, .int .u8 0, .int .u8 0, .int .u8 0, .int .u8 0, .int .u8 0, .int .u8 0, .int .u8 0, .int .u8 0] 32)) (g := w3.heap.size) (Nat.le_refl _) (bytV idv).toArray
          have hG4 := setRow_heap (w3.alloc (.cells #[.int .u8 0, .int .u8 0, .int .u8 0, .int .u8 0, .int .u8 0, .int .u8 0, .int .u8 0, .int .u8 0, .int .u8 0, .int .u8 0, .int .u8 0, .int .u8 0, .int .u8 0, .int .u8 0, .int .u8 0, .int .u8 0, .int .u8 0, .int .u8 0, .int .u8 0, .int .u8 0, .int .u8 0, .int .u8 0, .int .u8 0, .int .u8 0, .int .u8 0, .int .u8 0, .int .u8 0, .int .u8 0, .int .u8 0, .int .u8 0, .int .u8 0, .int .u8 0] 32)) w3.heap.size _ (bytV idv).toArray 32 (0, 0) (heap_alloc_new w3 _)
          generalize (w3.alloc (.cells #[.int .u8 0, .int .u8 0, .int .u8 0, .int .u8 0, .int .u8 0, .int .u8 0, .int .u8 0, .int .u8 0, .int .u8 0, .int .u8 0, .int .u8 0, .int .u8 0, .int .u8 0, .int .u8 0, .int .u8 0, .int .u8 0, .int .u8 0, .int .u8 0, .int .u8 0, .int .u8 0, .int .u8 0, .int .u8 0, .int .u8 0, .int .u8 0, .int .u8 0, .int .u8 0, .int .u8 0, .int .u8 0, .int .u8 0, .int .u8 0, .int .u8 0, .int .u8 0] 32)).setRow w3.heap.size (bytV idv).toArray = w4 at *
          refine wp_region_lit ?_
          refine wp_move rfl (.tmp 7) rfl u7 rfl ?_
          simp only [Act.put, List.setIfInBounds_toArray, List.set_cons_succ, List.set_cons_zero]
          refine wp_move rfl (.tmp 10) rfl (.string part) rfl ?_
          simp only [Act.put, List.setIfInBounds_toArray, List.set_cons_succ, List.set_cons_zero]
          refine wpList_load_row rfl 32 (.tmp 11) rfl w3.heap.size rfl 32 (bytV idv).toArray (0, 0) _ hG4 Tryz.underlying32 rfl Hz.out ?_
          simp only [Act.put, List.setIfInBounds_toArray, List.set_cons_succ, List.set_cons_zero]
          refine wp_build rfl rfl (ps := #[(0, .string part), (2, .agg (bytV idv).toArray)]) (by simp only [List.map_toArray, List.map_cons, List.map_nil]; rfl) (build_ent2 w4 part idv Hil.out) ?_
          simp only [Act.put, List.setIfInBounds_toArray, List.set_cons_succ, List.set_cons_zero]
          refine wp_bslice rfl rfl (ps := #[(0, .agg (entV (part, false, idv, ())).toArray)]) (by simp only [List.map_toArray, List.map_cons, List.map_nil]; rfl) (slice_one eltE w4 (part, false, idv, ()) (entV_len Hil.out) (by decide)) ?_
          simp only [Act.put, List.setIfInBounds_toArray, List.set_cons_succ, List.set_cons_zero]
          have hB5 := (Below.refl w4.heap.size w4).alloc (Nat.le_refl _) (.cells (entV (part, false, idv, ())).toArray 58)
          have hG5 := heap_alloc_new w4 (.cells (entV (part, false, idv, ())).toArray 58)
          have hBa := hB4.trans (hB5.mono hB4.size)
          refine wp_append_ent rfl (.tmp 45) (.tmp 49) rfl rfl w1.heap.size u7 E rfl (gen_own_below Hev3.out hBa) w4.heap.size (part, false, idv, ()) rfl hG5 Hil.out (by omega) (by have := hBa.size; have := HK3.out.size; have := Hszw.out; have := Hsz.out; omega) ?_
          intro v5 w5 hown5 hgr5 hwhere5
          simp only [Act.put, List.setIfInBounds_toArray, List.set_cons_succ, List.set_cons_zero]
          have hHa := (HH3.out.below0 hBa)
          have hlt5 := fun q (hq : v5.ownBlock = some q) => (own_lt hown5 hq).2
          have hge := fun q (hq : u7.ownBlock = some q) => (own_lt Hev3.out hq).1
          have HH5 := Lib.hid (hHa.append (fun q hq ht => by have := hge q hq; have := HT.out q ht; have := Hb0.out; omega) hgr5 hwhere5 hlt5)
          have hKg : Kp (fun q => T q ∨ w1.heap.size ≤ q) w3 w5 := (Kp.of_below hBa).trans (Kp.grown hgr5 (fun q hq => .inr (hge q hq)))
          have HK5 := Lib.hid (HKpw.out.trans ((HK3.out.mono (fun q hq => .inl hq)).trans hKg))
          have Hlv5 := Lib.hid (Hlv3.out.kp hKg)
          have Hown5 := Lib.hid hown5
          obtain ⟨o5, hrun5, hlat5⟩ := Hlv5.out.drop 1 (by simp) (by have := HnA.out; simp; omega) hnc
          have Hlat5 := Lib.hid hlat5
          clear hB4 hG4 hB5 hG5 hBa hHa hlt5 hge hKg hown5 hgr5 hwhere5 hlat5
          generalize w4.alloc (.cells (entV (part, false, idv, ())).toArray 58) = w4a at *
          go_upto_region 8 with fail
          refine wp_region_lit ?_
          refine wp_move rfl (.tmp 2) rfl (.slice (some ⟨g1, o1, none⟩) n c) rfl ?_
          simp only [Act.put, List.setIfInBounds_toArray, List.set_cons_succ, List.set_cons_zero]
          refine wp_slice Tryz.underlying22 rfl (.tmp 51) rfl (.slice (some ⟨g1, o1, none⟩) n c) rfl (some (.int .i64 ((1 : Nat) : Int))) none rfl rfl (.slice (some ⟨g1, o5, none⟩) (n - 1) (c - 1)) (hrun5 _) ?_
          simp only [Act.put, List.setIfInBounds_toArray, List.set_cons_succ, List.set_cons_zero]
          go_wp2_with fail
          go_roundg (gk - 1)
          case measure => have := Hkg.out; have := Hrl.out; omega
          case rel =>
            have hkg := Hkg.out
            have hrl := Hrl.out
            have hm := Hm.out
            refine ⟨k + 1, m', nb2, nt1, E ++ [(part, false, idv, ())], Sx, by omega, by omega, by omega, by rw [Hdn2.out]; exact HLow.out.tail, by rw [Hdn2.out]; exact HE3.out, by rw [Hdn2.out]; exact HS3.out, by rw [List.length_append, List.length_singleton]; omega, by rw [Hdn2.out]; exact Hlat5.out, Hown5.out, ?_, ?_, HK5.out⟩
            · rw [Hdn1.out, ← List.append_assoc]
              exact HH5.out
            · have h9 := HG.out.trans HG3.out
              rw [Hdn1.out]
              simpa using h9
        · have hq : (part.toList == way.toList) = false := beq_of_ne hpw
          obtain ⟨b1, b2, b3⟩ := Hbh.out hpw
          obtain ⟨hE3, hS3⟩ := hEd.out hpw
          obtain ⟨sub, hsub⟩ : ∃ y, y = jn d part := ⟨_, rfl⟩
          have hjp := jn_parts (d := d) b1 b2
          have hjl := congrArg List.length hjp
          rw [List.length_append, List.length_singleton] at hjl
          have hjz := jn_size d part
          rw [← hsub] at hE3 hS3 b3 hjl hjz
          have hpos := belowN_pos (d := sub) (f := f) (r := r) (by rw [← HZz.out]; exact b3)
          have hle := belowN_le sub (f :: r)
          obtain ⟨kk, hkk⟩ : ∃ y, y = belowN sub (f :: r) := ⟨_, rfl⟩
          rw [← hkk] at hE3 hS3 hpos hle
          simp only [List.length_cons] at hle
          have hIL := HLow.out.into (e := sub)
          have hDL := HLow.out.drop kk
          rw [← hkk] at hIL
          have HIL := Lib.hid hIL
          have HDL := Lib.hid hDL
          have HE3 := Lib.hid hE3
          have HS3 := Lib.hid hS3
          have Hdz := Lib.hid (show sub.size ≤ 200 * (splitL sub).length by have := Hd.out; omega)
          have Hjl := Lib.hid hjl
          have hntT : nt1 + (bldT m' sub ((f :: r).take kk)).length ≤ 1048576 := by
            have h1 := Hnt.out
            unfold bldT at h1
            rw [HS3.out] at h1
            have h2 := HG.out.lt
            simp only [List.length_append] at h1
            omega
          have HJ := Lib.hid (pjoin_any (.slice (some ⟨w2.heap.size, 0, none⟩) 2 2) [d, part] (w2.alloc (.cells #[.string d, .string part] 9)) (strs_cells (zs := [d, part]) (by have h := heap_alloc_new w2 (.cells #[.string d, .string part] 9); simpa using h) (by unfold maxLen; simp)) (by have := Hd.out; simp [cnt]; omega))
          rw [show joinS [d, part] = sub from hsub.symm] at HJ
          have hbelow := below98_any sub (f :: r) (.slice (some ⟨g1, o1, none⟩) n c)
          rw [← hkk] at hbelow
          have Hbelow := Lib.hid hbelow
          have hkkI : (0 : Int) ≤ (kk : Int) := by omega
          have Hpos := Lib.hid hpos
          have Hle := Lib.hid hle
          clear hE3 hS3 hEf hEd Hbh hpw b1 b2 b3 hjp hjl hjz hsub hkk hbelow hpos hle hIL hDL hpz
          go_wp2_with fail
          refine HJ.out.mono ?_
          rintro e w3 ⟨rfl, hB3⟩
          have hBa := ((Below.refl w2.heap.size w2).alloc (Nat.le_refl _) (.cells #[.string d, .string part] 9)).trans (hB3.mono (by simp))
          have HBa := Lib.hid hBa
          have HC3 := Lib.hid (Hbelow.out w3 ((Hlvw.out.kp (Kp.of_below hBa)).rows Hfs.out) (by have := Hrl.out; simp only [List.length_cons]; omega))
          clear hBa hB3 HJ
          go_wp2_with fail
          refine HC3.out.mono ?_
          rintro e w4 ⟨rfl, hB4⟩
          have HB4 := Lib.hid (HBa.out.trans (hB4.mono HBa.out.size))
          clear hB4 HC3 Hbelow
          go_upto_region 11 with fail
          have Hlv4 := Lib.hid (Hlvw.out.kp (Kp.of_below HB4.out))
          obtain ⟨hrunT, hlatT⟩ := Hlv4.out.take kk (by have := Hle.out; simp only [List.length_cons]; omega) (by have := HnA.out; simp only [List.length_cons]; omega)
          have hnb5 : nb1 + ((f :: r).take kk).length ≤ 1048576 := by
            have h1 := HG.out.lb
            have h9 : (datF (l.take k)).length ≤ k := by unfold datF; rw [List.length_map, List.length_take]; omega
            have := Hrl.out
            rw [List.length_take]; simp only [List.length_cons]; omega
          have HIH := Hih.out m' (by omega) sub ((f :: r).take kk) (.slice (some ⟨g1, o1, none⟩) kk c) (w := w4) (HHw.out.below0 HB4.out) (KeysAt.kp HKw.out (Kp.of_below (T := T) HB4.out) HT1.out) (MaxAt.kp HMw.out (Kp.of_below (T := T) HB4.out) HT1.out) (hlatT.monoT (fun q hq => .inl hq)) HIL.out
            (by have := Hle.out; have := Hm.out; have := Hkg.out; have := Hrl.out; have := Hjl.out; rw [List.length_take]; simp only [List.length_cons]; omega) (by have := Hrl.out; rw [List.length_take]; simp only [List.length_cons]; omega) (fun x hx => Hfs4.out x (List.mem_of_mem_take hx)) hnb5 hntT Hdz.out
          refine wp_region_lit ?_
          refine wp_move rfl (.tmp 7) rfl u7 rfl ?_
          simp only [Act.put, List.setIfInBounds_toArray, List.set_cons_succ, List.set_cons_zero]
          refine wp_move rfl (.tmp 10) rfl (.string part) rfl ?_
          simp only [Act.put, List.setIfInBounds_toArray, List.set_cons_succ, List.set_cons_zero]
          refine wp_move rfl (.tmp 0) rfl (.pointer (some ⟨b, 0, none⟩)) rfl ?_
          simp only [Act.put, List.setIfInBounds_toArray, List.set_cons_succ, List.set_cons_zero]
          refine wp_move rfl (.tmp 13) rfl (.string sub) rfl ?_
          simp only [Act.put, List.setIfInBounds_toArray, List.set_cons_succ, List.set_cons_zero]
          refine wp_move rfl (.tmp 2) rfl (.slice (some ⟨g1, o1, none⟩) n c) rfl ?_
          simp only [Act.put, List.setIfInBounds_toArray, List.set_cons_succ, List.set_cons_zero]
          refine wp_move rfl (.tmp 14) rfl (.int .i64 (kk : Nat)) rfl ?_
          simp only [Act.put, List.setIfInBounds_toArray, List.set_cons_succ, List.set_cons_zero]
          refine wp_slice Tryz.underlying22 rfl (.tmp 64) rfl (.slice (some ⟨g1, o1, none⟩) n c) rfl none (some (.int .i64 (kk : Nat))) rfl rfl (.slice (some ⟨g1, o1, none⟩) kk c) (hrunT _) ?_
          simp only [Act.put, List.setIfInBounds_toArray, List.set_cons_succ, List.set_cons_zero]
          refine wp_call rfl 41 #[.tmp 62, .tmp 63, .tmp 66] #[29, 9, 22] rfl #[.pointer (some ⟨b, 0, none⟩), .string sub, .slice (some ⟨g1, o1, none⟩) kk c] (enters_of Tryz.func41 (by kernel_rfl) rfl) (by simp only [List.map_toArray, List.map_cons, List.map_nil]; rfl) (φ := fun v5 w5 => BldEnd T (fun q => (X q ∨ q = w.heap.size) ∨ u7.ownBlock = some q) b fc nc (AB ++ datF (l.take k)) (AT ++ Sx) nb1 nt1 m' sub ((f :: r).take kk) w4 (.returned v5) w5) (HIH.mono (fun e w5 h5 => by obtain ⟨h6, h7⟩ := h5; exact ⟨_, h6, ⟨rfl, h7⟩⟩)) ?_
          rintro v5 w5 ⟨hv5, nb2, nt2, hH5, hG5, hK5⟩
          injection hv5 with hv5
          obtain ⟨idv, hidv⟩ : ∃ y, y = tid (treeB (bldE m' sub ((f :: r).take kk))) := ⟨_, rfl⟩
          rw [← hidv] at hv5
          have Hidv := Lib.hid hidv
          have Hil := Lib.hid (show idv.length = 32 by rw [hidv]; exact tid_len _)
          subst hv5
          simp only [Act.put, List.setIfInBounds_toArray, List.set_cons_succ, List.set_cons_zero]
          refine wp_build rfl rfl (ps := #[(0, .string part), (1, .bool true), (2, .agg (bytV idv).toArray)]) (by simp only [List.map_toArray, List.map_cons, List.map_nil]; rfl) (build_ent w5 part true idv Hil.out) ?_
          simp only [Act.put, List.setIfInBounds_toArray, List.set_cons_succ, List.set_cons_zero]
          refine wp_bslice rfl rfl (ps := #[(0, .agg (entV (part, true, idv, ())).toArray)]) (by simp only [List.map_toArray, List.map_cons, List.map_nil]; rfl) (slice_one eltE w5 (part, true, idv, ()) (entV_len Hil.out) (by decide)) ?_
          simp only [Act.put, List.setIfInBounds_toArray, List.set_cons_succ, List.set_cons_zero]
          have hB6 := (Below.refl w5.heap.size w5).alloc (Nat.le_refl _) (.cells (entV (part, true, idv, ())).toArray 58)
          have hG6 := heap_alloc_new w5 (.cells (entV (part, true, idv, ())).toArray 58)
          have hev5 := own_kp (gen_own_below Hevw.out HB4.out) (fun q hq => by have := HT.out q hq; have := Hb0.out; omega) hK5
          refine wp_append_ent rfl (.tmp 60) (.tmp 69) rfl rfl w1.heap.size u7 E rfl (gen_own_below hev5 hB6) w5.heap.size (part, true, idv, ()) rfl hG6 Hil.out (by omega) (by have := hB6.size; have := hK5.size; have := HB4.out.size; have := Hszw.out; have := Hsz.out; omega) ?_
          intro v7 w7 hown7 hgr7 hwhere7
          simp only [Act.put, List.setIfInBounds_toArray, List.set_cons_succ, List.set_cons_zero]
          have hHa := (hH5.below0 hB6)
          have hlt7 := fun q (hq : v7.ownBlock = some q) => (own_lt hown7 hq).2
          have hge := fun q (hq : u7.ownBlock = some q) => (own_lt hev5 hq).1
          have HH7 := Lib.hid (hHa.append (fun q hq ht => by have := hge q hq; have := HT.out q ht; have := Hb0.out; omega) hgr7 hwhere7 hlt7)
          have hKg : Kp (fun q => T q ∨ w1.heap.size ≤ q) w4 w7 := (hK5.mono (fun q hq => .inl hq)).trans ((Kp.of_below hB6).trans (Kp.grown hgr7 (fun q hq => .inr (hge q hq))))
          have HK7 := Lib.hid (HKpw.out.trans ((Kp.of_below HB4.out).trans hKg))
          have Hlv7 := Lib.hid (Hlv4.out.kp hKg)
          have Hown7 := Lib.hid hown7
          have HG5 := Lib.hid hG5
          obtain ⟨o7, hrun7, hlat7⟩ := Hlv7.out.drop kk (by have := Hle.out; simp only [List.length_cons]; omega) (by have := HnA.out; simp; omega) hnc
          have Hlat7 := Lib.hid hlat7
          clear hB6 hG6 hHa hlt7 hge hKg hown7 hgr7 hwhere7 hlat7 hH5 hG5 hK5 hev5 HIH hlatT hrunT hidv
          generalize w5.alloc (.cells (entV (part, true, idv, ())).toArray 58) = w5a at *
          go_upto_region 12 with fail
          refine wp_region_lit ?_
          refine wp_move rfl (.tmp 2) rfl (.slice (some ⟨g1, o1, none⟩) n c) rfl ?_
          simp only [Act.put, List.setIfInBounds_toArray, List.set_cons_succ, List.set_cons_zero]
          refine wp_move rfl (.tmp 14) rfl (.int .i64 (kk : Nat)) rfl ?_
          simp only [Act.put, List.setIfInBounds_toArray, List.set_cons_succ, List.set_cons_zero]
          refine wp_slice Tryz.underlying22 rfl (.tmp 71) rfl (.slice (some ⟨g1, o1, none⟩) n c) rfl (some (.int .i64 (kk : Nat))) none rfl rfl (.slice (some ⟨g1, o7, none⟩) (n - kk) (c - kk)) (hrun7 _) ?_
          simp only [Act.put, List.setIfInBounds_toArray, List.set_cons_succ, List.set_cons_zero]
          go_wp2_with fail
          go_roundg (gk - kk)
          case measure => have := Hkg.out; have := Hrl.out; have := Hpos.out; omega
          case rel =>
            have hkg := Hkg.out
            have hrl := Hrl.out
            have hm := Hm.out
            have hpos := Hpos.out
            have hle := Hle.out
            have hdd : l.drop (k + kk) = (f :: r).drop kk := by rw [← Hdr.out, List.drop_drop]
            refine ⟨k + kk, m', nb2, nt2, E ++ [(part, true, idv, ())], Sx ++ bldT m' sub ((f :: r).take kk), by omega, by omega, by omega, by rw [hdd]; exact HDL.out, by rw [hdd, Hidv.out]; exact HE3.out, by rw [hdd]; exact HS3.out, by rw [List.length_append, List.length_singleton]; omega, by rw [hdd]; exact Hlat7.out, Hown7.out, ?_, ?_, HK7.out⟩
            · rw [data_more, Hdr.out, ← List.append_assoc, ← List.append_assoc]
              exact HH7.out
            · have h9 := HG.out.trans HG5.out
              rw [data_more, Hdr.out]
              exact h9
end Go.Proofs.YtdhaanaenklleaaGreatDoor
namespace Go.Proofs.YtdhaanaenklleaaGreatDoor
set_option linter.unusedVariables false
set_option linter.unusedSimpArgs false
open Go.ChangeShapes Go.WideShapes Go.ChangeAt Go.RowKit

def nilB : ByteArray := ⟨#[]⟩
theorem nilB_split : splitL nilB = [] := by unfold splitL nilB; rfl
theorem filR_eq (x : Fil) (cs : List Value) (h : filR x cs) : cs = filV x := (fil_cells h).1
theorem low_top {l : List Fil} (hs : SortedF l) (ha : Apart l) : Low nilB l := ⟨hs, ha, fun x hx => by
  rw [under_empty nilB x.1 rfl]; exact good_some (ha.1 x hx)⟩
theorem own_rows {w : World} {base : Nat} {v : Value} {l : List Fil} (hz : ∀ x ∈ l, x.1.size ≤ 140737488351232 ∧ x.2.1.size ≤ 140737488351232) (h : w.ownsRow base 44 2 v l.length (LF filV l)) : Rows w 2 filR v l :=
  (LAt.own (e := 44) (fun x _ => filV_len x) h).rows (fun x hx => filR_of (hz x hx).1 (hz x hx).2)
theorem rows_sizes {w : World} {v : Value} {l : List Fil} (h : Rows w 2 filR v l) : ∀ x ∈ l, x.1.size ≤ 140737488351232 ∧ x.2.1.size ≤ 140737488351232 := by
  rcases h with ⟨_, rfl⟩ | ⟨b, o, cap, rfl, h0, hcap, hmax, hb, hcell⟩
  · intro x hx; cases hx
  · intro x hx
    obtain ⟨i, hi, rfl⟩ := List.getElem_of_mem hx
    obtain ⟨ecs, h1, _⟩ := hcell i l[i] (List.getElem?_eq_getElem hi)
    exact (fil_cells h1).2
def BuiltEnd (T X : Nat → Prop) (b : Nat) (fc : List UInt8 → Option Value) (nc : Nat) (AB : List ByteArray) (AT : List (List Ent)) (nb nt : Nat) (l' : List Fil) (w : World) (e : Ending) (w' : World) : Prop :=
  e = .returned (.tuple #[.agg (bytV (tid (treeB (bldE 80 nilB l')))).toArray, .int .i64 0]) ∧ ∃ nb' nt', Hav T X b fc nc (AB ++ datF l') (AT ++ bldT 80 nilB l') nb' nt' w' ∧ Grow AB AT nb nt (datF l') (bldT 80 nilB l') nb' nt' ∧ Kp T w w'
def RefEnd (T X : Nat → Prop) (b : Nat) (fc : List UInt8 → Option Value) (nc : Nat) (AB : List ByteArray) (AT : List (List Ent)) (nb nt : Nat) (k : Int) (w : World) (e : Ending) (w' : World) : Prop :=
  e = .returned (.tuple #[.agg #[.int .u8 0, .int .u8 0, .int .u8 0, .int .u8 0, .int .u8 0, .int .u8 0, .int .u8 0, .int .u8 0, .int .u8 0, .int .u8 0, .int .u8 0, .int .u8 0, .int .u8 0, .int .u8 0, .int .u8 0, .int .u8 0, .int .u8 0, .int .u8 0, .int .u8 0, .int .u8 0, .int .u8 0, .int .u8 0, .int .u8 0, .int .u8 0, .int .u8 0, .int .u8 0, .int .u8 0, .int .u8 0, .int .u8 0, .int .u8 0, .int .u8 0, .int .u8 0], .int .i64 k]) ∧ Hav T X b fc nc AB AT nb nt w' ∧ Below w.heap.size w w'
section
variable {T X : Nat → Prop} {b nc nb nt : Nat} {fc : List UInt8 → Option Value} {AB : List ByteArray} {AT : List (List Ent)} {w : World}
set_option maxRecDepth 100000 in
set_option maxHeartbeats 8000000 in
/-- Both ways at once, up to the recursion. -/
theorem build_any (h : Hav T X b fc nc AB AT nb nt w) (hK : S.KeysAt w) (hM : MaxAt w) (v : Value) (a : List Fil) (hv : Rows w 2 filR v a) (hn : a.length ≤ 60) (hz : ∀ x ∈ a, x.1.size ≤ 1073741824) (hs : whyF a = 0 → ∀ x ∈ a, x.2.1.size ≤ 4096) (hnb : nb + 60 ≤ 1048576) (hnt : nt + 961 ≤ 1048576) :
    Calls Tryz.prog 13 #[.pointer (some ⟨b, 0, none⟩), v] w fun e w' => (¬ whyF a = 0 ∧ RefEnd T X b fc nc AB AT nb nt (whyF a) w e w') ∨ (whyF a = 0 ∧ ∃ l', l'.Perm a ∧ SortedF l' ∧ Apart l' ∧ BuiltEnd T X b fc nc AB AT nb nt l' w e w') := by
  have hT := h.lt
  have hb0 : (w.alloc (.cells #[.int .u8 0, .int .u8 0, .int .u8 0, .int .u8 0, .int .u8 0, .int .u8 0, .int .u8 0, .int .u8 0, .int .u8 0, .int .u8 0, .int .u8 0, .int .u8 0, .int .u8 0, .int .u8 0, .int .u8 0, .int .u8 0, .int .u8 0, .int .u8 0, .int .u8 0, .int .u8 0, .int .u8 0, .int .u8 0, .int .u8 0, .int .u8 0, .int .u8 0, .int .u8 0, .int .u8 0, .int .u8 0, .int .u8 0, .int .u8 0, .int .u8 0, .int .u8 0] 32)).heap.size = w.heap.size + 1 := by simp
  have hB0 := (Below.refl w.heap.size w).alloc (Nat.le_refl _) (.cells #[.int .u8 0, .int .u8 0, .int .u8 0, .int .u8 0, .int .u8 0, .int .u8 0, .int .u8 0, .int .u8 0, .int .u8 0, .int .u8 0, .int .u8 0, .int .u8 0, .int .u8 0, .int .u8 0, .int .u8 0, .int .u8 0, .int .u8 0, .int .u8 0, .int .u8 0, .int .u8 0, .int .u8 0, .int .u8 0, .int .u8 0, .int .u8 0, .int .u8 0, .int .u8 0, .int .u8 0, .int .u8 0, .int .u8 0, .int .u8 0, .int .u8 0, .int .u8 0] 32)
  have HR := Lib.hid (Res37.made w #[.int .u8 0, .int .u8 0, .int .u8 0, .int .u8 0, .int .u8 0, .int .u8 0, .int .u8 0, .int .u8 0, .int .u8 0, .int .u8 0, .int .u8 0, .int .u8 0, .int .u8 0, .int .u8 0, .int .u8 0, .int .u8 0, .int .u8 0, .int .u8 0, .int .u8 0, .int .u8 0, .int .u8 0, .int .u8 0, .int .u8 0, .int .u8 0, .int .u8 0, .int .u8 0, .int .u8 0, .int .u8 0, .int .u8 0, .int .u8 0, .int .u8 0, .int .u8 0] rfl)
  have hzz := rows_sizes hv
  have HHX := Lib.hid (h.below hB0)
  have HKp0 := Lib.hid (Kp.of_below (T := T) hB0)
  have HT := Lib.hid (fun q (hq : T q) => ((hT q hq).2 : q < w.heap.size))
  have HT1 := Lib.hid (fun q (hq : T q) => ((hT q hq).1 : 1 < q))
  have HK1 := Lib.hid (KeysAt.kp hK HKp0.out (fun q hq => (hT q hq).1))
  have hM1 := MaxAt.kp hM HKp0.out (fun q hq => (hT q hq).1)
  have HM1 := Lib.hid hM1
  have hv1 := hv.below hB0
  have HL := Lib.hid (cloneF_any v a _ (LAt.ofRows (by decide) filR_eq hv1) (by omega))
  have Hzz := Lib.hid hzz
  have Hz := Lib.hid hz
  have Hs := Lib.hid hs
  have Hb0 := Lib.hid hb0
  have Hz0 := Lib.hid (show (Tryz.prog.info? 32).map (·.size) = some (#[.int .u8 0, .int .u8 0, .int .u8 0, .int .u8 0, .int .u8 0, .int .u8 0, .int .u8 0, .int .u8 0, .int .u8 0, .int .u8 0, .int .u8 0, .int .u8 0, .int .u8 0, .int .u8 0, .int .u8 0, .int .u8 0, .int .u8 0, .int .u8 0, .int .u8 0, .int .u8 0, .int .u8 0, .int .u8 0, .int .u8 0, .int .u8 0, .int .u8 0, .int .u8 0, .int .u8 0, .int .u8 0, .int .u8 0, .int .u8 0, .int .u8 0, .int .u8 0] : Array Value).size by kernel_rfl)
  have Hone0 := Lib.hid (show (#[.int .u8 0, .int .u8 0, .int .u8 0, .int .u8 0, .int .u8 0, .int .u8 0, .int .u8 0, .int .u8 0, .int .u8 0, .int .u8 0, .int .u8 0, .int .u8 0, .int .u8 0, .int .u8 0, .int .u8 0, .int .u8 0, .int .u8 0, .int .u8 0, .int .u8 0, .int .u8 0, .int .u8 0, .int .u8 0, .int .u8 0, .int .u8 0, .int .u8 0, .int .u8 0, .int .u8 0, .int .u8 0, .int .u8 0, .int .u8 0, .int .u8 0, .int .u8 0] : Array Value).all (·.oneCell') = true by simp [Value.oneCell'])
  obtain ⟨p, n, c, rfl, hnl⟩ : ∃ p n c, v = .slice p n c ∧ n = a.length := by
    obtain ⟨p, c, e, -⟩ := hv.elem rfl
    exact ⟨p, _, c, e, rfl⟩
  have hn512 : ¬ (512 : Int) < (n : Int) := by omega
  have hM1s := hM1.1
  clear h hK hM hv hT hz hs hzz hv1 hM1 hB0 hb0 hnl
  go_enter Tryz.func13, Tryz.ntmps13
  go_wp2_with fail
  generalize w.alloc (.cells #[.int .u8 0, .int .u8 0, .int .u8 0, .int .u8 0, .int .u8 0, .int .u8 0, .int .u8 0, .int .u8 0, .int .u8 0, .int .u8 0, .int .u8 0, .int .u8 0, .int .u8 0, .int .u8 0, .int .u8 0, .int .u8 0, .int .u8 0, .int .u8 0, .int .u8 0, .int .u8 0, .int .u8 0, .int .u8 0, .int .u8 0, .int .u8 0, .int .u8 0, .int .u8 0, .int .u8 0, .int .u8 0, .int .u8 0, .int .u8 0, .int .u8 0, .int .u8 0] 32) = w1 at *
  refine HL.out.mono ?_
  rintro e w2 ⟨r, rfl, hown, hB2⟩
  have HB2 := Lib.hid hB2
  have HS := Lib.hid (sort61_any a r w1.heap.size w2 (HM1.out.below hB2) hown hM1s Hz.out (by omega))
  clear hown hB2 HL
  go_wp2_with fail
  refine HS.out.mono ?_
  rintro e w3 ⟨rfl, l', hperm, hsort, hown3, hB3⟩
  have hB3' : Below w1.heap.size w1 w3 := HB2.out.trans (hB3.mono (by have := HB2.out.size; omega))
  have HB3 := Lib.hid hB3'
  have Hperm := Lib.hid hperm
  have Hsort := Lib.hid hsort
  have hll : l'.length = a.length := hperm.length_eq
  have hown3' : w3.ownsRow w1.heap.size 44 2 r l'.length (LF filV l') := by rw [hll]; exact hown3
  have Hown3 := Lib.hid hown3'
  have Hll := Lib.hid hll
  have hrow3 := own_rows (fun x hx => Hzz.out x (hperm.mem_iff.1 hx)) hown3'
  have HA := Lib.hid (apart_any r l' w3 (HM1.out.below hB3') hrow3 (fun x hx => Hz.out x (hperm.mem_iff.1 hx)) (by omega))
  have hap : apartF l' = whyOk a := apart_why hperm hsort
  rw [hap] at HA
  have HC := Lib.hid (fun w4 (h4 : Below w3.heap.size w3 w4) => contains65_any l' r w4 (hrow3.below h4) (by omega))
  have hlong : (l'.any fun x => decide (32768 < x.2.1.size)) = longF a := by
    unfold longF
    rw [Bool.eq_iff_iff, List.any_eq_true, List.any_eq_true]
    exact ⟨fun ⟨x, hx, e⟩ => ⟨x, hperm.mem_iff.1 hx, e⟩, fun ⟨x, hx, e⟩ => ⟨x, hperm.mem_iff.2 hx, e⟩⟩
  rw [hlong] at HC
  have Hap := Lib.hid hap
  clear hown3 hB3 hB3' hperm hsort hll hown3' hrow3 hap hlong HS
  cases hok : whyOk a with
  | false =>
    have Hw : whyF a = 1 := by unfold whyF; rw [if_neg (by omega), if_pos hok]
    have HW := Lib.hid Hw
    rw [hok] at HA
    clear Hw hok HC
    go_wp2_with fail
    refine HA.out.mono ?_
    rintro e w4 ⟨rfl, hB4⟩
    have hR4 := (HR.out.below HB3.out).below hB4
    have HH4 := Lib.hid (HHX.out.below0 (HB3.out.trans (hB4.mono HB3.out.size)))
    obtain ⟨cs, hcs, hcz⟩ := hR4.at_
    have HR4 := Lib.hid hR4
    clear hB4 hR4
    go_wp2_with (first | (refine wpList_store_rowTo rfl 32 (.tmp 4) (.tmp 21) rfl rfl w.heap.size #[.int .u8 0, .int .u8 0, .int .u8 0, .int .u8 0, .int .u8 0, .int .u8 0, .int .u8 0, .int .u8 0, .int .u8 0, .int .u8 0, .int .u8 0, .int .u8 0, .int .u8 0, .int .u8 0, .int .u8 0, .int .u8 0, .int .u8 0, .int .u8 0, .int .u8 0, .int .u8 0, .int .u8 0, .int .u8 0, .int .u8 0, .int .u8 0, .int .u8 0, .int .u8 0, .int .u8 0, .int .u8 0, .int .u8 0, .int .u8 0, .int .u8 0, .int .u8 0] rfl rfl 32 cs hcs Hz0.out (by rw [hcz]; rfl) Hone0.out ?_))
    refine rid0 rfl (setRow_heap w4 w.heap.size cs #[.int .u8 0, .int .u8 0, .int .u8 0, .int .u8 0, .int .u8 0, .int .u8 0, .int .u8 0, .int .u8 0, .int .u8 0, .int .u8 0, .int .u8 0, .int .u8 0, .int .u8 0, .int .u8 0, .int .u8 0, .int .u8 0, .int .u8 0, .int .u8 0, .int .u8 0, .int .u8 0, .int .u8 0, .int .u8 0, .int .u8 0, .int .u8 0, .int .u8 0, .int .u8 0, .int .u8 0, .int .u8 0, .int .u8 0, .int .u8 0, .int .u8 0, .int .u8 0] 32 (0, 0) hcs) Hz0.out rfl rfl rfl (.inl ⟨by rw [HW.out]; decide, by rw [HW.out]; rfl, ?_, below_setRow HR4.out.b (Nat.le_refl _) _⟩)
    exact (HH4.out.turn (w' := w4.setRow w.heap.size #[.int .u8 0, .int .u8 0, .int .u8 0, .int .u8 0, .int .u8 0, .int .u8 0, .int .u8 0, .int .u8 0, .int .u8 0, .int .u8 0, .int .u8 0, .int .u8 0, .int .u8 0, .int .u8 0, .int .u8 0, .int .u8 0, .int .u8 0, .int .u8 0, .int .u8 0, .int .u8 0, .int .u8 0, .int .u8 0, .int .u8 0, .int .u8 0, .int .u8 0, .int .u8 0, .int .u8 0, .int .u8 0, .int .u8 0, .int .u8 0, .int .u8 0, .int .u8 0]) w.heap.size (fun hq => by have := HT.out _ hq; omega) (.inr ⟨Nat.le_refl _, by have := Hb0.out; omega⟩) (by simp [World.setRow]) (fun q hq hne => setRow_other _ _ _ _ hne)).monoX (fun q hq => .inl hq)
  | true =>
    rw [hok] at HA
    cases hlg : longF a with
    | true =>
      have Hw : whyF a = 3 := by unfold whyF; rw [if_neg (by omega), hok, if_neg (by simp), if_pos hlg]
      have HW := Lib.hid Hw
      rw [hlg] at HC
      clear Hw hok hlg
      go_wp2_with fail
      refine HA.out.mono ?_
      rintro e w4 ⟨rfl, hB4⟩
      have HC4 := Lib.hid (HC.out w4 hB4)
      have HB4 := Lib.hid hB4
      clear hB4
      go_wp2_with fail
      refine HC4.out.mono ?_
      rintro e w5 ⟨rfl, hB5⟩
      have hB45 := HB4.out.trans (hB5.mono HB4.out.size)
      have hR4 := (HR.out.below HB3.out).below hB45
      have HH4 := Lib.hid (HHX.out.below0 (HB3.out.trans (hB45.mono HB3.out.size)))
      obtain ⟨cs, hcs, hcz⟩ := hR4.at_
      have HR4 := Lib.hid hR4
      clear hB5 hB45 hR4
      go_wp2_with (first | (refine wpList_store_rowTo rfl 32 (.tmp 4) (.tmp 24) rfl rfl w.heap.size #[.int .u8 0, .int .u8 0, .int .u8 0, .int .u8 0, .int .u8 0, .int .u8 0, .int .u8 0, .int .u8 0, .int .u8 0, .int .u8 0, .int .u8 0, .int .u8 0, .int .u8 0, .int .u8 0, .int .u8 0, .int .u8 0, .int .u8 0, .int .u8 0, .int .u8 0, .int .u8 0, .int .u8 0, .int .u8 0, .int .u8 0, .int .u8 0, .int .u8 0, .int .u8 0, .int .u8 0, .int .u8 0, .int .u8 0, .int .u8 0, .int .u8 0, .int .u8 0] rfl rfl 32 cs hcs Hz0.out (by rw [hcz]; rfl) Hone0.out ?_))
      refine rid0 rfl (setRow_heap w5 w.heap.size cs #[.int .u8 0, .int .u8 0, .int .u8 0, .int .u8 0, .int .u8 0, .int .u8 0, .int .u8 0, .int .u8 0, .int .u8 0, .int .u8 0, .int .u8 0, .int .u8 0, .int .u8 0, .int .u8 0, .int .u8 0, .int .u8 0, .int .u8 0, .int .u8 0, .int .u8 0, .int .u8 0, .int .u8 0, .int .u8 0, .int .u8 0, .int .u8 0, .int .u8 0, .int .u8 0, .int .u8 0, .int .u8 0, .int .u8 0, .int .u8 0, .int .u8 0, .int .u8 0] 32 (0, 0) hcs) Hz0.out rfl rfl rfl (.inl ⟨by rw [HW.out]; decide, by rw [HW.out]; rfl, ?_, below_setRow HR4.out.b (Nat.le_refl _) _⟩)
      exact (HH4.out.turn (w' := w5.setRow w.heap.size #[.int .u8 0, .int .u8 0, .int .u8 0, .int .u8 0, .int .u8 0, .int .u8 0, .int .u8 0, .int .u8 0, .int .u8 0, .int .u8 0, .int .u8 0, .int .u8 0, .int .u8 0, .int .u8 0, .int .u8 0, .int .u8 0, .int .u8 0, .int .u8 0, .int .u8 0, .int .u8 0, .int .u8 0, .int .u8 0, .int .u8 0, .int .u8 0, .int .u8 0, .int .u8 0, .int .u8 0, .int .u8 0, .int .u8 0, .int .u8 0, .int .u8 0, .int .u8 0]) w.heap.size (fun hq => by have := HT.out _ hq; omega) (.inr ⟨Nat.le_refl _, by have := Hb0.out; omega⟩) (by simp [World.setRow]) (fun q hq hne => setRow_other _ _ _ _ hne)).monoX (fun q hq => .inl hq)
    | false =>
      have Hw : whyF a = 0 := by unfold whyF; rw [if_neg (by omega), hok, if_neg (by simp), hlg, if_neg (by simp)]
      have HW := Lib.hid Hw
      rw [hlg] at HC
      have hapl : Apart l' := (apart_iff Hsort.out).1 (by rw [Hap.out, hok])
      have Hapl := Lib.hid hapl
      have hlow := low_top Hsort.out hapl
      have HLow := Lib.hid hlow
      have htl := bldt_len (n := 80) hlow
      have Htl := Lib.hid htl
      clear Hw hok hlg hapl hlow htl
      go_wp2_with fail
      refine HA.out.mono ?_
      rintro e w4 ⟨rfl, hB4⟩
      have HC4 := Lib.hid (HC.out w4 hB4)
      have HB4 := Lib.hid hB4
      clear hB4
      go_wp2_with fail
      refine HC4.out.mono ?_
      rintro e w5 ⟨rfl, hB5⟩
      have hB45 := HB4.out.trans (hB5.mono HB4.out.size)
      have hB15 := HB3.out.trans (hB45.mono HB3.out.size)
      have HB15 := Lib.hid hB15
      have HH5 := HHX.out.below0 hB15
      have hown5 := gen_own_below Hown3.out hB45
      have HBd := Lib.hid (build67_any 80 nilB l' r (w := w5) HH5 (KeysAt.kp HK1.out (Kp.of_below (T := T) hB15) HT1.out) (MaxAt.kp HM1.out (Kp.of_below (T := T) hB15) HT1.out) (LatK.own (base := w1.heap.size) (fun q hq => by have := HT.out q hq; have := Hb0.out; omega) hown5) HLow.out
        (by rw [nilB_split]; have := Hll.out; simp only [List.length_nil]; omega) (by have := Hll.out; omega) (fun x hx => Hs.out HW.out x (Hperm.out.mem_iff.1 hx)) (by have := Hll.out; omega) (by have := Htl.out; have := Hll.out; omega) (by decide))
      unfold nilB at HBd
      have hR5 := (HR.out.below HB3.out).below hB45
      have HR5 := Lib.hid hR5
      clear hB5 hB45 hB15 HH5 hown5 hR5 HC4 HC HA
      go_wp2_with fail
      refine HBd.out.mono ?_
      rintro e w6 ⟨rfl, nb', nt', hH6, hG6, hK6⟩
      have HH6 := Lib.hid hH6
      have HG6 := Lib.hid hG6
      have HK6 := Lib.hid hK6
      obtain ⟨cs, hcs5, hcz⟩ := HR5.out.at_
      have hcs := (hK6.block _ (lt_of_block hcs5) (fun hq => by have := HT.out _ hq; omega)).trans hcs5
      have HCs := Lib.hid hcs
      obtain ⟨idv, hidv⟩ : ∃ y, y = tid (treeB (bldE 80 ⟨#[]⟩ l')) := ⟨_, rfl⟩
      rw [← hidv]
      have Hidv := Lib.hid hidv
      have Hil := Lib.hid (show idv.length = 32 by rw [hidv]; exact tid_len _)
      have Hz := Lib.hid (id_size Hil.out)
      have Hone := Lib.hid (id_one idv)
      have Hs32 := Lib.hid (show (bytV idv).toArray.size = 32 by rw [List.size_toArray, bytV_len, Hil.out])
      clear hH6 hG6 hK6 hcs5 hcs hidv HBd
      go_wp2_with (first | (refine wpList_store_rowTo rfl 32 (.tmp 4) (.tmp 27) rfl rfl w.heap.size (bytV idv).toArray rfl rfl 32 cs HCs.out Hz.out (by rw [hcz, Hs32.out]) Hone.out ?_))
      refine rid0 rfl (setRow_heap w6 w.heap.size cs (bytV idv).toArray 32 (0, 0) HCs.out) Hz.out rfl rfl rfl (.inr ⟨HW.out, l', Hperm.out, Hsort.out, Hapl.out, by rw [Hidv.out]; rfl, nb', nt', ?_, HG6.out, ?_⟩)
      · exact (HH6.out.turn (w' := w6.setRow w.heap.size (bytV idv).toArray) w.heap.size (fun hq => by have := HT.out _ hq; omega) (.inr ⟨Nat.le_refl _, by have := Hb0.out; omega⟩) (by simp [World.setRow]) (fun q hq hne => setRow_other _ _ _ _ hne)).monoX (fun q hq => .inl hq)
      · exact Kp.setRow (HKp0.out.trans ((Kp.of_below HB15.out).trans HK6.out)) (Nat.le_refl _)
end
end Go.Proofs.YtdhaanaenklleaaGreatDoor
