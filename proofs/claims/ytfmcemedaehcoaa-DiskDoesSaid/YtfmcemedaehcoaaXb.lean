/- The theory of both devices: files by names, in whatever order and in order; what agrees. -/
import Derived.Test.YtfmcemedaehcoaaXa
import Derived.Sort.Walk0
namespace Go.Proofs.Ytfmcemedaehcoaa
set_option linter.unusedVariables false
set_option linter.unusedSimpArgs false
open Go.ChangeShapes Go.WideShapes Go.ChangeAt Go.RowKit Go.ChangeMaps

def gtN (a b : ByteArray) : Bool := !(Op.bytesLess a.toList b.toList || a.toList == b.toList)
theorem nmL_inj {a b : ByteArray} (h : nmL a = nmL b) : a = b := ByteArray.ext (Array.toList_inj.1 h)
theorem gtN_iff {a b : ByteArray} : gtN a b = true ↔ nmL b < nmL a := by
  unfold gtN
  rw [Go.Proofs.bytesLess_eq, Lib.toList_data, Lib.toList_data, Bool.not_eq_true', Bool.or_eq_false_iff, decide_eq_false_iff_not, beq_eq_false_iff_ne]
  show (¬ nmL a < nmL b ∧ nmL a ≠ nmL b) ↔ _
  constructor
  · rintro ⟨h1, h2⟩
    rcases Std.le_total (a := nmL a) (b := nmL b) with h | h
    · exact absurd (Std.lt_of_le_of_ne h h2) h1
    · exact Std.lt_of_le_of_ne h (Ne.symm h2)
  · intro h
    exact ⟨fun h2 => Std.lt_irrefl (Std.lt_trans h h2), fun e => by rw [e] at h; exact Std.lt_irrefl h⟩
theorem gtN_not {a b : ByteArray} (h : ¬ gtN a b = true) (hne : a ≠ b) : nmL a < nmL b := by
  rw [gtN_iff] at h
  rcases Std.le_total (a := nmL a) (b := nmL b) with h2 | h2
  · exact Std.lt_of_le_of_ne h2 (fun e => hne (nmL_inj e))
  · exact absurd (Std.lt_of_le_of_ne h2 (fun e => hne (nmL_inj e.symm))) h
def insR (f : Ab) : List Ab → List Ab
  | [] => [f]
  | x :: r => if gtN x.1 f.1 = true then f :: x :: r else x :: insR f r
def putR (A : List Ab) (f : Ab) : List Ab := insR f (drpA A f.1)
def Srt (A : List Ab) : Prop := A.Pairwise fun y z => nmL y.1 < nmL z.1
theorem insR_mem {f y : Ab} : ∀ {L : List Ab}, y ∈ insR f L ↔ y = f ∨ y ∈ L
  | [] => by simp [insR]
  | x :: r => by
    unfold insR
    split
    · simp
    · rw [List.mem_cons, insR_mem (L := r), List.mem_cons]
      constructor
      · rintro (h | h | h)
        · exact .inr (.inl h)
        · exact .inl h
        · exact .inr (.inr h)
      · rintro (h | h | h)
        · exact .inr (.inl h)
        · exact .inl h
        · exact .inr (.inr h)
theorem insR_done {f x : Ab} : ∀ {L : List Ab}, (∃ y ∈ L, gtN y.1 f.1 = true) → insR f (L ++ [x]) = insR f L ++ [x]
  | [], h => by obtain ⟨y, hy, _⟩ := h; cases hy
  | z :: r, h => by
    rw [List.cons_append]
    unfold insR
    by_cases hz : gtN z.1 f.1 = true
    · rw [if_pos hz, if_pos hz]; rfl
    · rw [if_neg hz, if_neg hz]
      obtain ⟨y, hy, hg⟩ := h
      rcases List.mem_cons.1 hy with rfl | hy
      · exact absurd hg hz
      · rw [insR_done ⟨y, hy, hg⟩]; rfl
theorem insR_over {f : Ab} : ∀ {L : List Ab}, (∀ y ∈ L, ¬ gtN y.1 f.1 = true) → insR f L = L ++ [f]
  | [], _ => rfl
  | z :: r, h => by
    unfold insR
    rw [if_neg (h z List.mem_cons_self), insR_over (fun y hy => h y (List.mem_cons_of_mem _ hy))]
    rfl
theorem insR_now {f x : Ab} : ∀ {L : List Ab}, (∀ y ∈ L, ¬ gtN y.1 f.1 = true) → gtN x.1 f.1 = true → insR f (L ++ [x]) = L ++ [f, x]
  | [], _, hx => by simp only [List.nil_append]; unfold insR; rw [if_pos hx]
  | z :: r, h, hx => by
    rw [List.cons_append]
    unfold insR
    rw [if_neg (h z List.mem_cons_self), insR_now (fun y hy => h y (List.mem_cons_of_mem _ hy)) hx]
    rfl
theorem srt_ins {f : Ab} : ∀ {L : List Ab}, Srt L → (∀ y ∈ L, y.1 ≠ f.1) → Srt (insR f L)
  | [], _, _ => by simp [insR, Srt]
  | z :: r, hs, hn => by
    unfold Srt at hs
    rw [List.pairwise_cons] at hs
    unfold insR
    by_cases hz : gtN z.1 f.1 = true
    · rw [if_pos hz]
      refine List.pairwise_cons.2 ⟨fun y hy => ?_, List.pairwise_cons.2 hs⟩
      have h1 := gtN_iff.1 hz
      rcases List.mem_cons.1 hy with rfl | hy
      · exact h1
      · exact Std.lt_trans h1 (hs.1 y hy)
    · rw [if_neg hz]
      refine List.pairwise_cons.2 ⟨fun y hy => ?_, srt_ins hs.2 (fun y hy => hn y (List.mem_cons_of_mem _ hy))⟩
      rcases insR_mem.1 hy with rfl | hy
      · exact gtN_not hz (hn z List.mem_cons_self)
      · exact hs.1 y hy
theorem drpA_mem {A : List Ab} {x : ByteArray} {g : Ab} : g ∈ drpA A x ↔ g ∈ A ∧ g.1 ≠ x := by
  unfold drpA; rw [List.mem_filter, decide_eq_true_eq]
theorem srt_drp {A : List Ab} {x : ByteArray} (h : Srt A) : Srt (drpA A x) := h.sublist List.filter_sublist
theorem srt_put {A : List Ab} {f : Ab} (h : Srt A) : Srt (putR A f) := srt_ins (srt_drp h) (fun y hy => (drpA_mem.1 hy).2)
theorem nd_srt {A : List Ab} (h : Srt A) : (A.map (·.1)).Nodup := by
  rw [List.nodup_iff_pairwise_ne, List.pairwise_map]
  exact h.imp fun {a b} hab e => by rw [e] at hab; exact Std.lt_irrefl hab
theorem nd_drp {A : List Ab} {x : ByteArray} (h : (A.map (·.1)).Nodup) : ((drpA A x).map (·.1)).Nodup := h.sublist (List.filter_sublist.map _)
theorem lookA_some {A : List Ab} {x : ByteArray} {y : Ab} (h : lookA A x = some y) : y ∈ A ∧ y.1 = x := ⟨List.mem_of_find?_eq_some h, by simpa using List.find?_some h⟩
theorem lookA_none {A : List Ab} {x : ByteArray} (h : lookA A x = none) : ∀ y ∈ A, y.1 ≠ x := fun y hy e => by
  have := List.find?_eq_none.1 h y hy
  simp [e] at this
theorem lookA_mem {A : List Ab} (hn : (A.map (·.1)).Nodup) {y : Ab} (hy : y ∈ A) : lookA A y.1 = some y := by
  cases hl : lookA A y.1 with
  | none => exact absurd rfl (lookA_none hl y hy)
  | some g =>
    obtain ⟨hg, he⟩ := lookA_some hl
    have : g = y := by
      clear hl
      induction A with
      | nil => cases hy
      | cons a A ih =>
        rw [List.map_cons, List.nodup_cons] at hn
        rcases List.mem_cons.1 hy with rfl | hf2 <;> rcases List.mem_cons.1 hg with rfl | hg2
        · rfl
        · exact absurd (he ▸ List.mem_map_of_mem hg2) hn.1
        · exact absurd (he ▸ List.mem_map_of_mem hf2) hn.1
        · exact ih hn.2 hf2 hg2
    rw [this]
theorem lookA_iff {A : List Ab} (hn : (A.map (·.1)).Nodup) {x : ByteArray} {y : Ab} : lookA A x = some y ↔ y ∈ A ∧ y.1 = x := ⟨lookA_some, fun ⟨h, e⟩ => e ▸ lookA_mem hn h⟩
theorem lookA_put {A : List Ab} {f : Ab} (h : Srt A) (x : ByteArray) : lookA (putR A f) x = if f.1 = x then some f else lookA A x := by
  have hn := nd_srt h
  have hp := nd_srt (srt_put (f := f) h)
  by_cases e : f.1 = x
  · rw [if_pos e]
    exact (lookA_iff hp).2 ⟨insR_mem.2 (.inl rfl), e⟩
  · rw [if_neg e]
    cases hl : lookA A x with
    | none =>
      refine List.find?_eq_none.2 fun y hy => ?_
      rcases insR_mem.1 hy with rfl | hy
      · simpa using e
      · simpa using lookA_none hl y (drpA_mem.1 hy).1
    | some y =>
      obtain ⟨h1, h2⟩ := lookA_some hl
      exact (lookA_iff hp).2 ⟨insR_mem.2 (.inr (drpA_mem.2 ⟨h1, fun e2 => e (e2.symm.trans h2)⟩)), h2⟩
theorem lookA_drp {A : List Ab} {x : ByteArray} (y : ByteArray) : lookA (drpA A x) y = if y = x then none else lookA A y := by
  unfold lookA drpA
  induction A with
  | nil => simp
  | cons a L ih =>
    rw [List.filter_cons]
    by_cases ha : a.1 = x
    · rw [if_neg (by simp [ha]), ih, List.find?_cons]
      by_cases hy : y = x
      · rw [if_pos hy, if_pos hy]
      · rw [if_neg hy, if_neg hy, decide_eq_false (fun e => hy (e.symm.trans ha))]
    · rw [if_pos (by simp [ha]), List.find?_cons, List.find?_cons, ih]
      by_cases hay : a.1 = y
      · have hyx : ¬ y = x := fun e => ha (hay.trans e)
        simp [hay, hyx]
      · rw [decide_eq_false hay]
theorem upd_cases {A : List Ab} {y : Ab} : (lookA A y.1 = none ∧ updA A y = A ++ [y]) ∨ ((lookA A y.1).isSome = true ∧ updA A y = A.map (fun g => if g.1 = y.1 then y else g)) := by
  unfold updA
  by_cases h : (lookA A y.1).isSome = true
  · exact .inr ⟨h, by rw [if_pos h]⟩
  · exact .inl ⟨by simpa using h, by rw [if_neg h]⟩
theorem updA_mem {A : List Ab} {y g : Ab} (h : g ∈ updA A y) : g = y ∨ (g ∈ A ∧ g.1 ≠ y.1) := by
  rcases @upd_cases A y with ⟨h1, h2⟩ | ⟨h1, h2⟩
  · rw [h2] at h
    rcases List.mem_append.1 h with h | h
    · exact .inr ⟨h, lookA_none h1 g h⟩
    · exact .inl (List.mem_singleton.1 h)
  · rw [h2] at h
    obtain ⟨g0, hg0, e⟩ := List.mem_map.1 h
    by_cases hn : g0.1 = y.1
    · rw [if_pos hn] at e; exact .inl e.symm
    · rw [if_neg hn] at e; subst e; exact .inr ⟨hg0, hn⟩
theorem mem_updA {A : List Ab} {y g : Ab} (h : g = y ∨ (g ∈ A ∧ g.1 ≠ y.1)) : g ∈ updA A y := by
  rcases @upd_cases A y with ⟨h1, h2⟩ | ⟨h1, h2⟩ <;> rw [h2]
  · rcases h with rfl | ⟨h, _⟩
    · simp
    · exact List.mem_append_left _ h
  · rcases h with rfl | ⟨h, hn⟩
    · obtain ⟨z, hz⟩ := Option.isSome_iff_exists.1 h1
      obtain ⟨hz1, hz2⟩ := lookA_some hz
      exact List.mem_map.2 ⟨z, hz1, by rw [if_pos hz2]⟩
    · exact List.mem_map.2 ⟨g, h, by rw [if_neg hn]⟩
theorem nd_upd {A : List Ab} {y : Ab} (hn : (A.map (·.1)).Nodup) : ((updA A y).map (·.1)).Nodup := by
  rcases @upd_cases A y with ⟨h1, h2⟩ | ⟨h1, h2⟩ <;> rw [h2]
  · rw [List.map_append, List.nodup_append]
    refine ⟨hn, by simp, fun a ha b hb e => ?_⟩
    simp only [List.map_cons, List.map_nil, List.mem_singleton] at hb
    obtain ⟨g, hg, rfl⟩ := List.mem_map.1 ha
    exact lookA_none h1 g hg (e.trans hb)
  · rw [List.map_map]
    have : ((fun z : Ab => z.1) ∘ fun g => if g.1 = y.1 then y else g) = fun z : Ab => z.1 := by
      funext g
      simp only [Function.comp]
      split
      · rename_i h; exact h.symm
      · rfl
    rw [this]; exact hn
theorem lookA_upd {A : List Ab} {y : Ab} (hn : (A.map (·.1)).Nodup) (x : ByteArray) : lookA (updA A y) x = if y.1 = x then some y else lookA A x := by
  have hp := nd_upd (y := y) hn
  by_cases e : y.1 = x
  · rw [if_pos e]
    exact (lookA_iff hp).2 ⟨mem_updA (.inl rfl), e⟩
  · rw [if_neg e]
    cases hl : lookA A x with
    | none =>
      refine List.find?_eq_none.2 fun z hz => ?_
      rcases updA_mem hz with rfl | ⟨hz, _⟩
      · simpa using e
      · simpa using lookA_none hl z hz
    | some z =>
      obtain ⟨h1, h2⟩ := lookA_some hl
      exact (lookA_iff hp).2 ⟨mem_updA (.inr ⟨h1, fun e2 => e (e2.symm.trans h2)⟩), h2⟩
theorem lookA_lose {A : List Ab} {k : Int} {t : Bool} (x : ByteArray) : lookA (A.map (loseA k t)) x = (lookA A x).map (loseA k t) := by
  unfold lookA
  rw [List.find?_map]
  rfl
/-- Both hold the same files. -/
structure Agr (A A' : List Ab) : Prop where
  nd : (A.map (·.1)).Nodup
  so : Srt A'
  lk : ∀ x, lookA A x = lookA A' x
theorem nd_of_names {A : List Ab} (h : (A.map (·.1)).Nodup) : A.Nodup := by
  rw [List.nodup_iff_pairwise_ne, List.pairwise_map] at h
  rw [List.nodup_iff_pairwise_ne]
  exact h.imp fun hab e => hab (by rw [e])
theorem Agr.perm {A A' : List Ab} (h : Agr A A') : A.Perm A' := by
  have h1 : A.Nodup := nd_of_names h.nd
  have h2 : A'.Nodup := nd_of_names (nd_srt h.so)
  refine (List.perm_ext_iff_of_nodup h1 h2).2 fun y => ?_
  rw [← and_iff_left (a := y ∈ A) (rfl : y.1 = y.1), ← and_iff_left (a := y ∈ A') (rfl : y.1 = y.1), ← lookA_iff h.nd, ← lookA_iff (nd_srt h.so), h.lk]
theorem Agr.tot {A A' : List Ab} (h : Agr A A') : totA A = totA A' := by
  unfold totA
  exact (h.perm.map _).sum_nat
theorem Agr.nil : Agr [] [] := ⟨by simp, by simp [Srt], fun _ => rfl⟩
theorem Agr.upd {A A' : List Ab} (h : Agr A A') (y : Ab) : Agr (updA A y) (putR A' y) := ⟨nd_upd h.nd, srt_put h.so, fun x => by rw [lookA_upd h.nd, lookA_put h.so, h.lk]⟩
theorem Agr.drp {A A' : List Ab} (h : Agr A A') (x : ByteArray) : Agr (drpA A x) (drpA A' x) := ⟨nd_drp h.nd, srt_drp h.so, fun y => by rw [lookA_drp, lookA_drp, h.lk]⟩
theorem lose_names (A : List Ab) (k : Int) (t : Bool) : (A.map (loseA k t)).map (·.1) = A.map (·.1) := by
  rw [List.map_map]; rfl
theorem Agr.lose {A A' : List Ab} (h : Agr A A') (k : Int) (t : Bool) : Agr (A.map (loseA k t)) (A'.map (loseA k t)) := ⟨by rw [lose_names]; exact h.nd, by
  unfold Srt
  rw [List.pairwise_map]
  exact h.so.imp fun hab => hab, fun x => by rw [lookA_lose, lookA_lose, h.lk]⟩
def apdR (A : List Ab) (x : ByteArray) (c : List UInt8) : List Ab := putR A (match lookA A x with | some y => (x, y.2.1 ++ c, y.2.2) | none => (x, c, 0))
def synR (A : List Ab) (x : ByteArray) : List Ab := match lookA A x with | some y => putR A (x, y.2.1, y.2.1.length) | none => A
def cutR (A : List Ab) (x : ByteArray) (n : Nat) : List Ab := match lookA A x with | some y => putR A (x, y.2.1.take (min n y.2.1.length), min y.2.2 (min n y.2.1.length)) | none => A
def renR (A : List Ab) (x z : ByteArray) : List Ab := match lookA A x with | some y => putR (drpA A x) (z, y.2.1, y.2.2) | none => A
theorem Agr.apd {A A' : List Ab} (h : Agr A A') (x : ByteArray) (c : List UInt8) : Agr (apdA A x c) (apdR A' x c) := by
  unfold apdA apdR
  rw [h.lk]
  exact h.upd _
theorem Agr.syn {A A' : List Ab} (h : Agr A A') (x : ByteArray) : Agr (synA A x) (synR A' x) := by
  unfold synA synR
  rw [h.lk]
  cases lookA A' x with
  | none => exact h
  | some y => exact h.upd _
theorem Agr.cut {A A' : List Ab} (h : Agr A A') (x : ByteArray) (n : Nat) : Agr (cutA A x n) (cutR A' x n) := by
  unfold cutA cutR
  rw [h.lk]
  cases lookA A' x with
  | none => exact h
  | some y => exact h.upd _
theorem Agr.ren {A A' : List Ab} (h : Agr A A') (x z : ByteArray) : Agr (renA A x z) (renR A' x z) := by
  unfold renA renR
  rw [h.lk]
  cases lookA A' x with
  | none => exact h
  | some y => exact (h.drp x).upd _
theorem Agr.names {A A' : List Ab} (h : Agr A A') {ss : List (List UInt8)} (hp : ss.Perm (A.map fun y => nmL y.1)) : (ss.mergeSort fun x y => decide (x ≤ y)) = A'.map fun y => nmL y.1 := by
  have h2 : (ss.mergeSort fun x y => decide (x ≤ y)).Perm (A'.map fun y => nmL y.1) := (List.mergeSort_perm _ _).trans (hp.trans (h.perm.map _))
  refine List.Perm.eq_of_pairwise (le := fun x y => decide (x ≤ y) = true) (fun a b _ _ hab hba => ?_) ?_ ?_ h2
  · exact Std.le_antisymm (by simpa using hab) (by simpa using hba)
  · exact List.pairwise_mergeSort (fun a b c h1 h2 => by
      rw [decide_eq_true_eq] at *
      exact Std.le_trans h1 h2) (fun a b => by
      rw [Bool.or_eq_true, decide_eq_true_eq, decide_eq_true_eq]
      exact Std.le_total) _
  · rw [List.pairwise_map]
    exact h.so.imp fun {a b} hab => by rw [decide_eq_true_eq]; exact Std.le_of_lt hab
/-! ### Sizes -/
def lnO : Option Ab → Nat
  | some y => y.2.1.length
  | none => 0
theorem tot_drp {A : List Ab} {x : ByteArray} : totA (drpA A x) ≤ totA A := by
  unfold totA drpA
  induction A with
  | nil => simp
  | cons a r ih =>
    rw [List.filter_cons]
    split
    · simp only [List.map_cons, List.sum_cons]; omega
    · simp only [List.map_cons, List.sum_cons]; omega
theorem tot_upd {A : List Ab} {y : Ab} (hn : (A.map (·.1)).Nodup) : totA (updA A y) + lnO (lookA A y.1) = totA A + y.2.1.length := by
  rcases @upd_cases A y with ⟨h1, h2⟩ | ⟨h1, h2⟩ <;> rw [h2]
  · rw [h1]; simp [totA, lnO]
  · clear h2
    induction A with
    | nil => simp [lookA] at h1
    | cons a r ih =>
      rw [List.map_cons, List.nodup_cons] at hn
      unfold lookA at h1 ⊢
      rw [List.find?_cons] at h1 ⊢
      by_cases e : a.1 = y.1
      · have hr : r.map (fun g => if g.1 = y.1 then y else g) = r := by
          rw [List.map_congr_left (g := id)]
          · simp
          · intro g hg
            rw [if_neg (fun e2 => hn.1 (by rw [e, ← e2]; exact List.mem_map_of_mem hg))]; rfl
        rw [List.map_cons, hr, if_pos e, decide_eq_true e]
        simp only [totA, List.map_cons, List.sum_cons, lnO]
        omega
      · rw [decide_eq_false e] at h1 ⊢
        have ih := ih hn.2 h1
        rw [List.map_cons, if_neg e]
        simp only [totA, List.map_cons, List.sum_cons] at ih ⊢
        unfold lookA at ih
        omega
theorem len_upd {A : List Ab} {y : Ab} : (updA A y).length ≤ A.length + 1 := by
  rcases @upd_cases A y with ⟨h1, h2⟩ | ⟨h1, h2⟩ <;> rw [h2] <;> simp
theorem lnO_of {A : List Ab} {x : ByteArray} : lnO (lookA A x) ≤ totA A := by
  cases h : lookA A x with
  | none => exact Nat.zero_le _
  | some y => exact tot_le (lookA_some h).1
theorem tot_apd {A : List Ab} {x : ByteArray} {c : List UInt8} (hn : (A.map (·.1)).Nodup) : totA (apdA A x c) = totA A + c.length := by
  unfold apdA
  cases h : lookA A x with
  | none =>
    have := tot_upd (y := (x, c, 0)) hn
    simp only [h, lnO] at this ⊢
    exact this
  | some y =>
    have := tot_upd (y := (x, y.2.1 ++ c, y.2.2)) hn
    simp only [h, lnO, List.length_append] at this ⊢
    omega
theorem tot_syn {A : List Ab} {x : ByteArray} (hn : (A.map (·.1)).Nodup) : totA (synA A x) = totA A := by
  unfold synA
  cases h : lookA A x with
  | none => rfl
  | some y =>
    have := tot_upd (y := (x, y.2.1, y.2.1.length)) hn
    simp only [h, lnO] at this ⊢
    omega
theorem tot_cut {A : List Ab} {x : ByteArray} {n : Nat} (hn : (A.map (·.1)).Nodup) : totA (cutA A x n) ≤ totA A := by
  unfold cutA
  cases h : lookA A x with
  | none => exact Nat.le_refl _
  | some y =>
    have := tot_upd (y := (x, y.2.1.take (min n y.2.1.length), min y.2.2 (min n y.2.1.length))) hn
    simp only [h, lnO, List.length_take] at this ⊢
    omega
theorem tot_ren {A : List Ab} {x z : ByteArray} (hn : (A.map (·.1)).Nodup) : totA (renA A x z) ≤ totA A := by
  unfold renA
  cases h : lookA A x with
  | none => exact Nat.le_refl _
  | some y =>
    have h1 := tot_upd (y := (z, y.2.1, y.2.2)) (nd_drp (x := x) hn)
    have h2 : totA (drpA A x) + y.2.1.length ≤ totA A := by
      obtain ⟨hm, he⟩ := lookA_some h
      clear h h1 hn
      unfold totA drpA
      induction A with
      | nil => cases hm
      | cons a r ih =>
        rw [List.filter_cons]
        rcases List.mem_cons.1 hm with rfl | hm
        · rw [if_neg (by simp [he])]
          have := @tot_drp r x
          unfold totA drpA at this
          simp only [List.map_cons, List.sum_cons]; omega
        · have := ih hm
          split <;> simp only [List.map_cons, List.sum_cons] <;> omega
    simp only at h1 ⊢
    omega
theorem len_lose (k : Int) (t : Bool) (y : Ab) : (loseA k t y).2.1.length ≤ y.2.1.length := by
  unfold loseA loseD
  have := keptN_le k y.2.1 y.2.2
  simp only
  split
  · rw [List.length_set, List.length_take]; omega
  · rw [List.length_take]; omega
theorem tot_lose {A : List Ab} {k : Int} {t : Bool} : totA (A.map (loseA k t)) ≤ totA A := by
  unfold totA
  induction A with
  | nil => simp
  | cons a r ih =>
    have := len_lose k t a
    simp only [List.map_cons, List.sum_cons] at ih ⊢
    omega
end Go.Proofs.Ytfmcemedaehcoaa
