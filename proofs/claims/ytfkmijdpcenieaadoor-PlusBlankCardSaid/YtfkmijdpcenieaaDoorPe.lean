/- Plain: brackets and blanks around a constraint; two joined. -/
import Derived.Test.YtfkmijdpcenieaaDoorPd
namespace Go.Proofs.YtfkmijdpcenieaaDoor
set_option linter.unusedVariables false

theorem sign_ne : (shutB ≠ orB ∧ shutB ≠ andB) ∧ (openB ≠ notB ∧ openB ≠ orB ∧ openB ≠ andB) ∧ (orB ≠ andB ∧ orB ≠ notB ∧ andB ≠ notB ∧ andB ≠ orB) := by decide +kernel
theorem brack {n : Nat} {X l : List ByteArray} (h : lvlP n .ors ⟨X, [], 0⟩ = .ok ⟨[], l, 0⟩) :
    (∀ k P Z, n + 2 ≤ k → lvlP k .part ⟨openB :: (X ++ shutB :: Z), P, 0⟩ = .ok ⟨Z, P ++ l, 0⟩) ∨ (∀ k P Z, n + 2 ≤ k → lvlP k .part ⟨openB :: (X ++ shutB :: Z), P, 0⟩ = .err .deep) := by
  have hs := fun (P Z : List ByteArray) => sim P (shutB :: Z) ⟨takeP_ne sign_ne.1.1, takeP_ne sign_ne.1.2⟩ n .ors X [] 1
  have hpart : ∀ (P Z : List ByteArray), lvlP (n + 2) .part ⟨openB :: (X ++ shutB :: Z), P, 0⟩ = lvlP (n + 1) .inner ⟨X ++ shutB :: Z, P, 0⟩ := by
    intro P Z
    rw [lvlP]
    simp only
    rw [takeP_eq rfl]
  have hin : ∀ (P Z : List ByteArray), lvlP (n + 1) .inner ⟨X ++ shutB :: Z, P, 0⟩ = (match lvlP n .ors ⟨X ++ shutB :: Z, P, 1⟩ with | .ok t => (match takeP shutB t.left with | (true, r) => .ok { left := r, parts := t.parts, deep := t.deep - 1 } | (false, r) => .err .form) | .err e => .err e) := by
    intro P Z
    rw [lvlP]
    simp only
    rw [if_neg (by omega)]
    rfl
  rcases deeper n .ors X [] 0 _ h with hd | hd
  · left
    intro k P Z hk
    obtain ⟨s1, _⟩ := hs P Z
    have h2 := s1 _ hd
    simp only [List.nil_append, List.append_nil] at h2
    have h3 : lvlP (n + 2) .part ⟨openB :: (X ++ shutB :: Z), P, 0⟩ = .ok ⟨Z, P ++ l, 0⟩ := by
      rw [hpart, hin, h2]
      simp only
      rw [takeP_eq rfl]
    rw [lvlP_mono (by rw [h3]; intro h; cases h) hk, h3]
  · right
    intro k P Z hk
    obtain ⟨_, s2⟩ := hs P Z
    have h2 := s2 hd
    simp only [List.append_nil] at h2
    have h3 : lvlP (n + 2) .part ⟨openB :: (X ++ shutB :: Z), P, 0⟩ = .err .deep := by
      rw [hpart, hin, h2]
    rw [lvlP_mono (by rw [h3]; intro h; cases h) hk, h3]

/-- A bracketed constraint where a part may stand. -/
def Br (n : Nat) (X l : List ByteArray) : Prop := ∀ k P Z, n + 2 ≤ k → lvlP k .part ⟨openB :: (X ++ shutB :: Z), P, 0⟩ = .ok ⟨Z, P ++ l, 0⟩
theorem br_nots {n : Nat} {X l : List ByteArray} (h : Br n X l) {k : Nat} {P Z : List ByteArray} (hk : n + 3 ≤ k) : lvlP k .nots ⟨openB :: (X ++ shutB :: Z), P, 0⟩ = .ok ⟨Z, P ++ l, 0⟩ := by
  obtain ⟨k, rfl⟩ : ∃ j, k = j + 1 := ⟨k - 1, by omega⟩
  rw [lvlP]
  simp only
  rw [takeP_ne sign_ne.2.1.1]
  exact h k P Z (by omega)
theorem tail_and {k : Nat} {P Z : List ByteArray} (hk : 1 ≤ k) (hz : takeP andB Z = (false, Z)) : lvlP k .andsT ⟨Z, P, 0⟩ = .ok ⟨Z, P, 0⟩ := by
  obtain ⟨k, rfl⟩ : ∃ j, k = j + 1 := ⟨k - 1, by omega⟩
  rw [lvlP]
  simp only
  rw [hz]
theorem tail_or {k : Nat} {P Z : List ByteArray} (hk : 1 ≤ k) (hz : takeP orB Z = (false, Z)) : lvlP k .orsT ⟨Z, P, 0⟩ = .ok ⟨Z, P, 0⟩ := by
  obtain ⟨k, rfl⟩ : ∃ j, k = j + 1 := ⟨k - 1, by omega⟩
  rw [lvlP]
  simp only
  rw [hz]
theorem br_ands {n : Nat} {X l : List ByteArray} (h : Br n X l) {k : Nat} {P Z : List ByteArray} (hk : n + 4 ≤ k) (hz : takeP andB Z = (false, Z)) : lvlP k .ands ⟨openB :: (X ++ shutB :: Z), P, 0⟩ = .ok ⟨Z, P ++ l, 0⟩ := by
  obtain ⟨k, rfl⟩ : ∃ j, k = j + 1 := ⟨k - 1, by omega⟩
  rw [lvlP, br_nots h (by omega)]
  exact tail_and (by omega) hz
theorem br_ors {n : Nat} {X l : List ByteArray} (h : Br n X l) {k : Nat} (hk : n + 5 ≤ k) : lvlP k .ors ⟨openB :: (X ++ [shutB]), [], 0⟩ = .ok ⟨[], l, 0⟩ := by
  obtain ⟨k, rfl⟩ : ∃ j, k = j + 1 := ⟨k - 1, by omega⟩
  rw [lvlP, br_ands h (by omega) rfl]
  exact tail_or (by omega) rfl
theorem br_or {n : Nat} {X l Y m : List ByteArray} (h : Br n X l) (h' : Br n Y m) : lvlP (n + 9) .ors ⟨openB :: (X ++ shutB :: orB :: openB :: (Y ++ [shutB])), [], 0⟩ = .ok ⟨[], l ++ m ++ [orB], 0⟩ := by
  rw [lvlP, br_ands h (by omega) (takeP_ne sign_ne.2.2.1)]
  simp only
  rw [lvlP]
  simp only
  rw [takeP_eq rfl]
  simp only
  rw [br_ands h' (by omega) rfl]
  simp only [List.nil_append]
  exact tail_or (by omega) rfl
theorem br_and {n : Nat} {X l Y m : List ByteArray} (h : Br n X l) (h' : Br n Y m) : lvlP (n + 9) .ors ⟨openB :: (X ++ shutB :: andB :: openB :: (Y ++ [shutB])), [], 0⟩ = .ok ⟨[], l ++ m ++ [andB], 0⟩ := by
  rw [lvlP, lvlP, br_nots h (by omega)]
  simp only
  rw [lvlP]
  simp only
  rw [takeP_eq rfl]
  simp only
  rw [br_nots h' (by omega)]
  simp only [List.nil_append]
  rw [tail_and (by omega) rfl]
  exact tail_or (by omega) rfl
theorem br_not {n : Nat} {X l : List ByteArray} (h : Br n X l) : lvlP (n + 9) .ors ⟨notB :: openB :: (X ++ [shutB]), [], 0⟩ = .ok ⟨[], l ++ [notB], 0⟩ := by
  rw [lvlP, lvlP, lvlP]
  simp only
  rw [takeP_eq rfl]
  simp only
  rw [h _ _ _ (by omega)]
  simp only [List.nil_append]
  rw [tail_and (by omega) rfl]
  exact tail_or (by omega) rfl

theorem pieces_nil : pieces [] = [] := rfl
theorem pieces_open (r : List UInt8) : pieces (40 :: r) = openB :: pieces r := by rw [pieces_cons, if_neg (by decide), if_neg (by decide), if_pos (.inr (.inl rfl))]; rfl
theorem pieces_shut (r : List UInt8) : pieces (41 :: r) = shutB :: pieces r := by rw [pieces_cons, if_neg (by decide), if_neg (by decide), if_pos (.inr (.inr rfl))]; rfl
theorem pieces_not (r : List UInt8) : pieces (33 :: r) = notB :: pieces r := by rw [pieces_cons, if_neg (by decide), if_neg (by decide), if_pos (.inl rfl)]; rfl
theorem pieces_sp (r : List UInt8) : pieces (32 :: r) = pieces r := by rw [pieces_cons, if_pos (by decide)]
theorem pieces_tb (r : List UInt8) : pieces (9 :: r) = pieces r := by rw [pieces_cons, if_pos (by decide)]
theorem pieces_or (r : List UInt8) : pieces (124 :: 124 :: r) = orB :: pieces r := by rw [pieces_cons, if_neg (by decide), if_neg (by decide), if_neg (by decide)]; simp only; rw [if_pos (Or.inr (And.intro trivial trivial))]; rfl
theorem pieces_and (r : List UInt8) : pieces (38 :: 38 :: r) = andB :: pieces r := by rw [pieces_cons, if_neg (by decide), if_neg (by decide), if_neg (by decide)]; simp only; rw [if_pos (Or.inl (And.intro trivial trivial))]; rfl

theorem ok_none {s : ByteArray} {l : List ByteArray} (h : parseR s = (l, 0)) : noneB ∉ pieces s.data.toList := by
  obtain ⟨_, C, h1, h2⟩ := lvlP_eats _ _ _ _ (to_pieces h)
  simp only [List.append_nil] at h1
  rw [h1]; exact h2
theorem ok_app {s : ByteArray} {l : List ByteArray} (h : parseR s = (l, 0)) (z : List UInt8) (c : UInt8) (hc : c = 41 ∨ c = 32) : pieces (s.data.toList ++ c :: z) = pieces s.data.toList ++ pieces (c :: z) :=
  pieces_app z c hc _ _ (Nat.le_refl _) (ok_none h)

/-- Blanks around. -/
theorem parse_blanks {s : ByteArray} {l : List ByteArray} (h : parseR s = (l, 0)) {x : ByteArray} (hx : x.data.toList = 32 :: 9 :: (s.data.toList ++ [32])) (hs : x.size ≤ 1024) : parseR x = (l, 0) := by
  refine of_pieces (n := 8 * s.size + 5) hs ?_
  rw [hx, pieces_sp, pieces_tb, ok_app h [] 32 (.inr rfl), pieces_sp, pieces_nil, List.append_nil]
  exact to_pieces h
/-- Brackets around. -/
theorem parse_brack {s : ByteArray} {l : List ByteArray} (h : parseR s = (l, 0)) {x : ByteArray} (hx : x.data.toList = 40 :: (s.data.toList ++ [41])) (hs : x.size ≤ 1024) :
    (parseR x = (l, 0) ∧ Br (8 * s.size + 5) (pieces s.data.toList) l) ∨ parseR x = ([], 8) := by
  have hp : pieces x.data.toList = openB :: (pieces s.data.toList ++ [shutB]) := by
    rw [hx, pieces_open, ok_app h [] 41 (.inl rfl), pieces_shut, pieces_nil]
  rcases brack (to_pieces h) with hb | hb
  · left
    refine ⟨of_pieces (n := 8 * s.size + 5 + 5) hs ?_, hb⟩
    rw [hp]
    exact br_ors hb (by omega)
  · right
    refine deep_pieces (n := 8 * s.size + 5 + 5) hs ?_
    rw [hp, lvlP, lvlP, lvlP]
    simp only
    rw [takeP_ne sign_ne.2.1.1]
    simp only
    rw [hb _ _ _ (by omega)]
theorem Br.mono {n m : Nat} {X l : List ByteArray} (h : Br n X l) (hm : n ≤ m) : Br m X l := fun k P Z hk => h k P Z (by omega)
/-- What stands in brackets, and they hold it. -/
structure Held (a x : ByteArray) (l : List ByteArray) : Prop where
  p : parseR a = (l, 0)
  b : Br (8 * a.size + 5) (pieces a.data.toList) l
theorem held_of {a x : ByteArray} {l l' : List ByteArray} (ha : parseR a = (l', 0)) (hx : x.data.toList = 40 :: (a.data.toList ++ [41])) (hs : x.size ≤ 1024) (hp : parseR x = (l, 0)) : Held a x l := by
  rcases parse_brack ha hx hs with ⟨h1, h2⟩ | h1
  · rw [hp] at h1
    have hl := (Prod.mk.inj h1).1
    subst hl
    exact ⟨ha, h2⟩
  · rw [hp] at h1
    have := (Prod.mk.inj h1).2
    cases this
theorem held_pieces {a x : ByteArray} {l : List ByteArray} (h : Held a x l) (z : List UInt8) : pieces (40 :: (a.data.toList ++ 41 :: z)) = openB :: (pieces a.data.toList ++ shutB :: pieces z) := by
  rw [pieces_open, ok_app h.p z 41 (.inl rfl), pieces_shut]
theorem parse_or {a x b y z : ByteArray} {l m : List ByteArray} (h : Held a x l) (h' : Held b y m) (hz : z.data.toList = 40 :: (a.data.toList ++ 41 :: 32 :: 124 :: 124 :: 32 :: 40 :: (b.data.toList ++ [41]))) (hs : z.size ≤ 1024) : parseR z = (l ++ m ++ [orB], 0) := by
  refine of_pieces (n := 8 * a.size + 5 + (8 * b.size + 5) + 9) hs ?_
  rw [hz, held_pieces h, pieces_sp, pieces_or, pieces_sp, held_pieces h', pieces_nil]
  exact br_or (h.b.mono (by omega)) (h'.b.mono (by omega))
theorem parse_and {a x b y z : ByteArray} {l m : List ByteArray} (h : Held a x l) (h' : Held b y m) (hz : z.data.toList = 40 :: (a.data.toList ++ 41 :: 38 :: 38 :: 40 :: (b.data.toList ++ [41]))) (hs : z.size ≤ 1024) : parseR z = (l ++ m ++ [andB], 0) := by
  refine of_pieces (n := 8 * a.size + 5 + (8 * b.size + 5) + 9) hs ?_
  rw [hz, held_pieces h, pieces_and, held_pieces h', pieces_nil]
  exact br_and (h.b.mono (by omega)) (h'.b.mono (by omega))
theorem parse_not {a x z : ByteArray} {l : List ByteArray} (h : Held a x l) (hz : z.data.toList = 33 :: 32 :: 40 :: (a.data.toList ++ [41])) (hs : z.size ≤ 1024) : parseR z = (l ++ [notB], 0) := by
  refine of_pieces (n := 8 * a.size + 5 + 9) hs ?_
  rw [hz, pieces_not, pieces_sp, held_pieces h, pieces_nil]
  exact br_not h.b
theorem parse_len {s : ByteArray} (hs : s.size ≤ 1024) : (parseR s).1.length ≤ 4096 := by
  unfold parseR
  rw [if_neg (by omega)]
  cases ho : ors0 s with
  | err c => simp
  | ok t =>
    simp only
    split
    · have := lvl_room _ _ _ _ ho
      simp only [List.length_nil, ba_len] at this
      simp only; omega
    · simp
end Go.Proofs.YtfkmijdpcenieaaDoor
