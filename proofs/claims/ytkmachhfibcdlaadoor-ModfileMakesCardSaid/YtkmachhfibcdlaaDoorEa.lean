/- Plain lemmas: levels of up to four digits; blocks of replacements. -/
import Derived.Test.YtkmachhfibcdlaaDoorDi
namespace Go.Proofs.YtkmachhfibcdlaaDoor
set_option linter.unusedVariables false
set_option linter.unusedSimpArgs false
open Go.ChangeShapes Go.WideShapes Go.ChangeAt Go.RowKit

theorem dec_big {u : Nat} (h : ¬ u < 10) : Lib.decDigits u = Lib.decDigits (u / 10) ++ [UInt8.ofNat (48 + u % 10)] := by rw [Lib.decDigits, dif_neg h]
theorem dec_small {u : Nat} (h : u < 10) : Lib.decDigits u = [UInt8.ofNat (48 + u)] := by rw [Lib.decDigits, dif_pos h]
theorem dig_nat (k : Nat) (h : k < 10) : (UInt8.ofNat (48 + k)).toNat = 48 + k := by rw [UInt8.toNat_ofNat']; omega
theorem dec_byte (u : Nat) : ∀ b ∈ Lib.decDigits u, 48 ≤ b.toNat ∧ b.toNat ≤ 57 := by
  induction u using Nat.strongRecOn with
  | _ u ih =>
    intro b hb
    by_cases h : u < 10
    · rw [dec_small h, List.mem_singleton] at hb
      rw [hb, dig_nat u h]
      omega
    · rw [dec_big h, List.mem_append, List.mem_singleton] at hb
      rcases hb with hb | hb
      · exact ih (u / 10) (by omega) b hb
      · rw [hb, dig_nat _ (by omega)]
        omega
theorem dec_ne (u : Nat) : Lib.decDigits u ≠ [] := by
  by_cases h : u < 10
  · rw [dec_small h]; simp
  · rw [dec_big h]; simp
theorem dec_len {u : Nat} (h : u ≤ 9999) : (Lib.decDigits u).length ≤ 4 := by
  have h1 : ∀ v, v < 10 → (Lib.decDigits v).length = 1 := fun v hv => by rw [dec_small hv]; rfl
  have h2 : ∀ v k, (∀ x, x < 10 ^ k → (Lib.decDigits x).length ≤ k) → 1 ≤ k → v < 10 ^ (k + 1) → (Lib.decDigits v).length ≤ k + 1 := fun v k hk hk1 hv => by
    by_cases h : v < 10
    · rw [h1 v h]; omega
    · rw [dec_big h, List.length_append]
      have := hk (v / 10) (by rw [Nat.pow_succ] at hv; omega)
      simp only [List.length_singleton]
      omega
  have a1 : ∀ x, x < 10 ^ 1 → (Lib.decDigits x).length ≤ 1 := fun x hx => by rw [h1 x (by simpa using hx)]; omega
  have a2 : ∀ x, x < 10 ^ 2 → (Lib.decDigits x).length ≤ 2 := fun x hx => h2 x 1 a1 (by omega) hx
  have a3 : ∀ x, x < 10 ^ 3 → (Lib.decDigits x).length ≤ 3 := fun x hx => h2 x 2 a2 (by omega) hx
  exact h2 u 3 a3 (by omega) (by have : (10 : Nat) ^ (3 + 1) = 10000 := by decide
                                 omega)
theorem parse_app : ∀ (l r : List UInt8) (a v : Nat), Lib.parseUint10 a l = .ok v → Lib.parseUint10 a (l ++ r) = Lib.parseUint10 v r
  | [], r, a, v, h => by
    simp only [Lib.parseUint10] at h
    injection h with h
    rw [h]
    rfl
  | c :: l, r, a, v, h => by
    rw [List.cons_append, Lib.parseUint10]
    rw [Lib.parseUint10] at h
    split at h
    · rename_i h1
      rw [if_pos h1]
      split at h
      · cases h
      · rename_i h2
        rw [if_neg h2]
        split at h
        · cases h
        · rename_i h3
          rw [if_neg h3]
          exact parse_app l r _ v h
    · cases h
theorem parse_one (a k : Nat) (hk : k < 10) (ha : a < 1000000) : Lib.parseUint10 a [UInt8.ofNat (48 + k)] = .ok (a * 10 + k) := by
  simp only [Lib.parseUint10]
  rw [dig_nat k hk, if_pos (by omega), if_neg (by omega), if_neg (by omega), Nat.add_sub_cancel_left]
theorem dec_parse (u : Nat) : u < 1000000 → Lib.parseUint10 0 (Lib.decDigits u) = .ok u := by
  induction u using Nat.strongRecOn with
  | _ u ih =>
    intro hu
    by_cases h : u < 10
    · rw [dec_small h, parse_one 0 u h (by omega)]
      congr 1
      omega
    · rw [dec_big h, parse_app _ _ _ _ (ih (u / 10) (by omega) (by omega)), parse_one _ _ (by omega) (by omega)]
      congr 1
      omega
theorem dec_atoi (u : Nat) (hu : u < 1000000) : Lib.atoiAll (Lib.decDigits u) = .ok (u : Int) := by
  have hp := dec_parse u hu
  have hb := dec_byte u
  have hn := dec_ne u
  generalize Lib.decDigits u = l at *
  cases l with
  | nil => exact absurd rfl hn
  | cons c r =>
    have hc := hb c List.mem_cons_self
    unfold Lib.atoiAll
    dsimp only
    rw [if_neg (by omega)]
    unfold Lib.parseMag
    rw [if_neg hn, hp]
    dsimp only
    rw [if_neg (by omega), if_neg (by omega), if_neg (by omega)]
theorem dec_decN {u : Nat} (h : u ≤ 9999) : decN (mkB (Lib.decDigits u)) = some (u : Int) := by
  unfold decN
  rw [mkB_toList, dec_atoi u (by omega)]
  dsimp only
  rw [if_pos ⟨by omega, by rw [mkB_size]; exact dec_len h, by rw [Lib.itoa_nonneg]; rfl⟩]
/-- A level of up to four digits. -/
def lvD (n : Nat) : ByteArray := mkB (49 :: 46 :: Lib.decDigits n)
theorem lvD_list (n : Nat) : (lvD n).data.toList = 49 :: 46 :: Lib.decDigits n := rfl
theorem lvD_level {n : Nat} (h : n ≤ 9999) : levelB (lvD n) = some (n : Int) := by
  have hc : cutB 46 (lvD n) = [⟨#[49]⟩, mkB (Lib.decDigits n)] := by
    unfold cutB
    rw [lvD_list, show (49 : UInt8) :: 46 :: Lib.decDigits n = [49] ++ 46 :: Lib.decDigits n from rfl, cuts_append, cuts_none _ _ _ (by decide), cuts_none _ _ _ (fun hm => by
      have := dec_byte n 46 hm
      have e : (46 : UInt8).toNat = 46 := rfl
      omega)]
    rfl
  unfold levelB levelX
  rw [hc, if_pos ⟨by simp, by simp, rfl, by
    show (([mkB (Lib.decDigits n)] : List ByteArray).all (fun y => (decN y).isSome)) = true
    simp [dec_decN h]⟩]
  exact dec_decN h
theorem lvD_piece (n : Nat) : Piece (lvD n).data.toList := by
  refine ⟨by rw [lvD_list]; simp, fun b hb => ?_, ?_⟩
  · rw [lvD_list] at hb
    have hx : 46 ≤ b.toNat := by
      simp only [List.mem_cons] at hb
      rcases hb with rfl | rfl | hb
      · decide
      · decide
      · have := dec_byte n b hb; omega
    rw [blank_nat]
    cases hp : pw b.toNat with
    | false => rfl
    | true => rcases (pw_iff _).1 hp with e | e | e <;> omega
  · have gen : ∀ l : List UInt8, (∀ b ∈ l, b ≠ 47) → noSS l = true := by
      intro l
      induction l with
      | nil => intro _; rfl
      | cons a l ih =>
        intro hl
        cases l with
        | nil => rfl
        | cons b r =>
          rw [noSS_two, ih (fun z hz => hl z (List.mem_cons_of_mem _ hz)), Bool.and_true]
          have := hl a List.mem_cons_self
          simp [this]
    refine gen _ (fun b hb e => ?_)
    rw [lvD_list, e] at hb
    simp only [List.mem_cons] at hb
    rcases hb with hb | hb | hb
    · exact absurd hb (by decide)
    · exact absurd hb (by decide)
    · have := dec_byte n 47 hb
      have e2 : (47 : UInt8).toNat = 47 := rfl
      omega
theorem lvD_no10 (n : Nat) : (10 : UInt8) ∉ (lvD n).data.toList := fun hb => by
  rw [lvD_list] at hb
  simp only [List.mem_cons] at hb
  rcases hb with hb | hb | hb
  · exact absurd hb (by decide)
  · exact absurd hb (by decide)
  · have := dec_byte n 10 hb
    have e2 : (10 : UInt8).toNat = 10 := rfl
    omega
theorem line_goD {R : MR} {n : Nat} (hn : n ≤ 9999) (hb : R.blk = ⟨#[]⟩) (hl : R.lev = false) : lineR R [wGo, lvD n] = (true, { R with lvl := (n : Int), lev := true }) := by
  rw [line_verb hb (by
    intro e
    have := congrArg (fun x : ByteArray => x.data.toList) e
    rw [lvD_list] at this
    injection this with h1 h2
    exact absurd h1 (by decide)), verb_go]
  unfold releaseR
  rw [if_pos ⟨rfl, hl⟩, show ([lvD n] : List ByteArray).getD 0 ⟨#[]⟩ = lvD n from rfl, lvD_level hn]
def lnD (n : Nat) : List UInt8 := joinS [wGo.data.toList, (lvD n).data.toList]
theorem step_D {R : MR} {n : Nat} (hn : n ≤ 9999) (hb : R.blk = ⟨#[]⟩) (hl : R.lev = false) : Step R (lnD n) { R with lvl := (n : Int), lev := true } :=
  step_of (P := [wGo, lvD n]) (by simp) (fun x hx => by
    simp only [List.mem_cons, List.not_mem_nil, or_false] at hx
    rcases hx with rfl | rfl
    · exact piece_lit (by decide) (by decide) (by decide)
    · exact lvD_piece n) (line_goD hn hb hl)
/-- A block's ends, and a line in it. -/
def lnO : List UInt8 := joinS [wReplace.data.toList, [40]]
def lnC : List UInt8 := joinS [[41]]
def lnI (x : Rp) : List UInt8 := joinS [x.1.data.toList, wArrow.data.toList, x.2.data.toList]
theorem line_open {R : MR} (hb : R.blk = ⟨#[]⟩) : lineR R [wReplace, ⟨#[40]⟩] = (true, { R with blk := wReplace }) := by
  unfold lineR
  rw [if_neg (fun k => k hb), if_pos ⟨rfl, rfl, by decide⟩]
  rfl
theorem wRep_ne : wReplace ≠ ⟨#[]⟩ := fun e => by
  have := congrArg ByteArray.size e
  simp [ByteArray.size] at this
theorem line_close {R : MR} (hb : R.blk = wReplace) : lineR R [⟨#[41]⟩] = (true, { R with blk := ⟨#[]⟩ }) := by
  unfold lineR
  rw [if_pos (by rw [hb]; exact wRep_ne), if_pos rfl]
theorem line_in {R : MR} {p d : ByteArray} (hw : wordP p) (hd : dirB d = true) (hb : R.blk = wReplace) (hn : ∀ x ∈ R.reps, x.1 ≠ p) : lineR R [p, wArrow, d] = (true, { R with reps := R.reps ++ [(p, d)] }) := by
  unfold lineR
  rw [if_pos (by rw [hb]; exact wRep_ne), if_neg (by simp), hb, verb_replace]
  have hne : p ≠ wArrow := fun e => by
    have := word_byte hw 61 (by rw [e]; simp)
    have e2 : (61 : UInt8).toNat = 61 := rfl
    omega
  have hi : Lib.idxOfS [p, wArrow, d] wArrow = 1 := by
    unfold Lib.idxOfS Lib.idxFromS
    rw [if_neg hne]
    unfold Lib.idxFromS
    rw [if_pos rfl]
    rfl
  unfold replaceR
  rw [hi, if_neg (by
    rintro (h | h | h)
    · exact absurd h (by decide)
    · exact absurd h (by decide)
    · rw [show ([p, wArrow, d] : List ByteArray).getD 0 ⟨#[]⟩ = p from rfl, word_path hw] at h
      cases h)]
  show replY R p [d] = _
  unfold replY
  rw [if_neg (by simp), if_neg (by rw [show ([d] : List ByteArray).getD 0 ⟨#[]⟩ = d from rfl, hd]; exact Bool.noConfusion), if_neg ?_]
  · show (true, ({ R with reps := R.reps ++ [(p, d)] } : MR)) = _
    rw [hb]
  · rintro (h | h)
    · exact h rfl
    · rw [List.any_eq_true] at h
      obtain ⟨x, hx, he⟩ := h
      exact hn x hx (of_decide_eq_true he)
theorem step_O {R : MR} (hb : R.blk = ⟨#[]⟩) : Step R lnO { R with blk := wReplace } :=
  step_of (P := [wReplace, ⟨#[40]⟩]) (by simp) (fun x hx => by
    simp only [List.mem_cons, List.not_mem_nil, or_false] at hx
    rcases hx with rfl | rfl
    · exact piece_lit (by decide) (by decide) (by decide)
    · exact piece_lit (by decide) (by decide) (by decide)) (line_open hb)
theorem step_C {R : MR} (hb : R.blk = wReplace) : Step R lnC { R with blk := ⟨#[]⟩ } :=
  step_of (P := [⟨#[41]⟩]) (by simp) (fun x hx => by
    simp only [List.mem_cons, List.not_mem_nil, or_false] at hx
    rcases hx with rfl
    exact piece_lit (by decide) (by decide) (by decide)) (line_close hb)
theorem step_I {R : MR} {x : Rp} (hw : wordP x.1) (hd : dirB x.2 = true) (hpd : Piece x.2.data.toList) (hb : R.blk = wReplace) (hn : ∀ y ∈ R.reps, y.1 ≠ x.1) : Step R (lnI x) { R with reps := R.reps ++ [x] } :=
  step_of (P := [x.1, wArrow, x.2]) (by simp) (fun y hy => by
    simp only [List.mem_cons, List.not_mem_nil, or_false] at hy
    rcases hy with rfl | rfl | rfl
    · exact word_piece hw
    · exact piece_lit (by decide) (by decide) (by decide)
    · exact hpd) (line_in hw hd hb hn)
/-- Replacements in a block. -/
theorem goM_ins : ∀ (X : List Rp) (R : MR) (i : Nat) (rest : List ByteArray), R.blk = wReplace → (∀ x ∈ X, wordP x.1 ∧ dirB x.2 = true ∧ Piece x.2.data.toList) → (∀ x ∈ X, ∀ y ∈ R.reps, y.1 ≠ x.1) → X.Pairwise (fun a b => a.1 ≠ b.1) →
    goM R i ((X.map lnI).map mkB ++ rest) = goM { R with reps := R.reps ++ X } (i + X.length) rest
  | [], R, i, rest, _, _, _, _ => by
    show goM R i rest = _
    rw [List.append_nil]
    rfl
  | x :: X, R, i, rest, hb, hX, hR, hP => by
    obtain ⟨h1, h2, h3⟩ := hX x List.mem_cons_self
    rw [List.pairwise_cons] at hP
    show goM R i (mkB (lnI x) :: ((X.map lnI).map mkB ++ rest)) = _
    rw [goM_step (step_I h1 h2 h3 hb (hR x List.mem_cons_self)), goM_ins X { R with reps := R.reps ++ [x] } (i + 1) rest hb (fun z hz => hX z (List.mem_cons_of_mem _ hz)) (fun z hz y hy => by
      rcases List.mem_append.1 hy with hy | hy
      · exact hR z (List.mem_cons_of_mem _ hz) y hy
      · rw [List.mem_singleton.1 hy]
        exact hP.1 z hz) hP.2, List.length_cons]
    dsimp only
    rw [List.append_assoc]
    congr 1
    omega
/-- The lines of the statement ModfileMakes. -/
def midL (bl : Bool) (X : List Rp) : List (List UInt8) := match bl with | true => lnO :: (X.map lnI ++ [lnC]) | false => X.map lnR
def wX : ByteArray := ⟨#[120]⟩
theorem wX_word : wordP wX := ⟨fun i hi => by
  have : i = 0 := by
    have : wX.size = 1 := rfl
    omega
  subst this
  decide, fun e => by
    have := congrArg ByteArray.size e
    simp [wX, ByteArray.size] at this, by decide⟩
theorem makes_mod (bl : Bool) (p : ByteArray) (n : Nat) (X : List Rp) (hp : wordP p) (hn : n ≤ 9999) (hX : ∀ x ∈ X, wordP x.1 ∧ dirB x.2 = true ∧ Piece x.2.data.toList) (hX10 : ∀ x ∈ X, (10 : UInt8) ∉ x.2.data.toList) (hP : X.Pairwise (fun a b => a.1 ≠ b.1)) :
    modM (mkB (tx (lnM p :: [] :: lnD n :: (midL bl X ++ [lnQ wX])))) = ⟨p, (n : Int), X, 0⟩ := by
  have hpne : p ≠ ⟨#[]⟩ := hp.2.1
  have h10w : ∀ {s : ByteArray}, wordP s → (10 : UInt8) ∉ s.data.toList := fun h => word_no10 h
  have hM : (10 : UInt8) ∉ lnM p := no10_join _ (fun x hx => by
    simp only [List.mem_cons, List.not_mem_nil, or_false] at hx
    rcases hx with rfl | rfl
    · decide
    · exact h10w hp)
  have hG : (10 : UInt8) ∉ lnD n := no10_join _ (fun x hx => by
    simp only [List.mem_cons, List.not_mem_nil, or_false] at hx
    rcases hx with rfl | rfl
    · decide
    · exact lvD_no10 n)
  have hQ : (10 : UInt8) ∉ lnQ wX := by decide
  have hR : ∀ x ∈ X, (10 : UInt8) ∉ lnR x := fun x hx => no10_join _ (fun y hy => by
    simp only [List.mem_cons, List.not_mem_nil, or_false] at hy
    rcases hy with rfl | rfl | rfl | rfl
    · decide
    · exact h10w (hX x hx).1
    · decide
    · exact hX10 x hx)
  have hI : ∀ x ∈ X, (10 : UInt8) ∉ lnI x := fun x hx => no10_join _ (fun y hy => by
    simp only [List.mem_cons, List.not_mem_nil, or_false] at hy
    rcases hy with rfl | rfl | rfl
    · exact h10w (hX x hx).1
    · decide
    · exact hX10 x hx)
  have hmid : ∀ l ∈ midL bl X, (10 : UInt8) ∉ l := fun l hl => by
    cases bl with
    | true =>
      simp only [midL, List.mem_cons, List.mem_append, List.mem_map, List.not_mem_nil, or_false] at hl
      rcases hl with rfl | ⟨x, hx, rfl⟩ | rfl
      · decide
      · exact hI x hx
      · decide
    | false =>
      simp only [midL, List.mem_map] at hl
      obtain ⟨x, hx, rfl⟩ := hl
      exact hR x hx
  have hw0 : wordsL (mkB []) = [] := rfl
  have hc : cutB 10 (mkB (tx (lnM p :: [] :: lnD n :: (midL bl X ++ [lnQ wX])))) = mkB (lnM p) :: mkB [] :: mkB (lnD n) :: ((midL bl X).map mkB ++ [mkB (lnQ wX), mkB []]) := by
    unfold cutB
    rw [mkB_toList]
    have := cuts_tx (lnM p :: [] :: lnD n :: (midL bl X ++ [lnQ wX])) [] (fun l hl => by
      simp only [List.mem_cons, List.mem_append, List.not_mem_nil, or_false] at hl
      rcases hl with rfl | rfl | rfl | hl | rfl
      · exact hM
      · simp
      · exact hG
      · exact hmid l hl
      · exact hQ) (by simp)
    rw [List.append_nil] at this
    rw [this]
    simp
  unfold modM modX
  rw [hc, goM_step (step_M hp rfl rfl), goM_dull hw0, goM_step (step_D hn rfl rfl)]
  have hend : ∀ (i : Nat) (R : MR), R.path = p → R.lvl = (n : Int) → R.reps = X → R.blk = ⟨#[]⟩ → ∀ k, endM k (goM R i [mkB (lnQ wX), mkB []]) = ⟨p, (n : Int), X, 0⟩ := fun i R h1 h2 h3 h4 k => by
    rw [goM_step (step_Q wX_word h4), goM_dull hw0, goM_out]
    unfold endM
    rw [if_neg (by simp), if_neg (by
      rintro (h | h)
      · exact h h4
      · exact hpne (h1.symm.trans h)), h1, h2, h3]
  cases bl with
  | false =>
    show endM _ (goM _ _ ((X.map lnR).map mkB ++ _)) = _
    rw [goM_reps X _ _ _ rfl hX (by intro x _ y hy; cases hy) hP]
    exact hend _ _ rfl rfl (List.nil_append X) rfl _
  | true =>
    have e : (midL true X).map mkB ++ [mkB (lnQ wX), mkB []] = mkB lnO :: ((X.map lnI).map mkB ++ (mkB lnC :: [mkB (lnQ wX), mkB []])) := by
      simp [midL]
    rw [e, goM_step (step_O rfl), goM_ins X _ _ _ rfl hX (by intro x _ y hy; cases hy) hP, goM_step (step_C rfl)]
    exact hend _ _ rfl rfl (List.nil_append X) rfl _
end Go.Proofs.YtkmachhfibcdlaaDoor
