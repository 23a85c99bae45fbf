/- Plain: what lines are in the newer form is read as them. -/
import Derived.Test.YtfkmijdpcenieaaDoorPe
import Derived.Test.YtfkmijdpcenieaaDoorRd
namespace Go.Proofs.YtfkmijdpcenieaaDoor
set_option linter.unusedVariables false

def Stop (z : List UInt8) : Prop := z = [] ∨ ∃ c r, z = c :: r ∧ (c = 41 ∨ c = 32)
theorem Stop.tw {z : List UInt8} (h : Stop z) : z.takeWhile tagC = [] := by
  rcases h with rfl | ⟨c, r, rfl, rfl | rfl⟩
  · rfl
  · rw [List.takeWhile_cons, if_neg (by decide)]
  · rw [List.takeWhile_cons, if_neg (by decide)]
structure Rdx (on : List ByteArray) (x : List UInt8) (h : Nat) (X l : List ByteArray) (v : Bool) : Prop where
  pc : ∀ z, Stop z → pieces (x ++ z) = X ++ pieces z
  rd : ∃ f, ∀ k P Z d, f ≤ k → d + h ≤ 64 → lvlP k .nots ⟨X ++ Z, P, d⟩ = .ok ⟨Z, P ++ l, d⟩
  ev : ∀ st r, evalS on st (l ++ r) = evalS on (v :: st) r
def Rdy (on : List ByteArray) (x : List UInt8) (h : Nat) (v : Bool) : Prop := ∃ X l, Rdx on x h X l v
theorem Rdy.more {on : List ByteArray} {x : List UInt8} {h : Nat} {v : Bool} (H : Rdy on x h v) : Rdy on x (h + 1) v := by
  obtain ⟨X, l, h1, ⟨f, h2⟩, h3⟩ := H
  exact ⟨X, l, h1, ⟨f, fun k P Z d hk hd => h2 k P Z d hk (by omega)⟩, h3⟩
theorem tag_pieces {r z : List UInt8} (h0 : r ≠ []) (h : r.all tagC = true) (hz : Stop z) : pieces (r ++ z) = mkB r :: pieces z := by
  cases r with
  | nil => exact absurd rfl h0
  | cons c q =>
    rw [List.all_cons, Bool.and_eq_true] at h
    have hb : blank c = false := by
      cases e : blank c with
      | false => rfl
      | true => have := tag_not_blank e; rw [h.1] at this; cases this
    have hq : (q ++ z).takeWhile tagC = q := by
      rw [List.takeWhile_append_of_pos (fun a ha => List.all_eq_true.1 h.2 a ha), hz.tw, List.append_nil]
    rw [List.cons_append, pieces_cons, if_neg (by rw [hb]; decide), if_pos h.1, List.takeWhile_cons, if_pos h.1, hq, List.drop_left]
theorem tag_shape {x : ByteArray} (h : tagB x = true) : x.data.toList ≠ [] ∧ x.data.toList.all tagC = true := by
  unfold tagB at h
  rw [Bool.and_eq_true] at h
  refine ⟨fun e => ?_, h.2⟩
  rw [e] at h
  cases h.1
theorem tag_sign {x : ByteArray} (h : tagB x = true) : x ≠ notB ∧ x ≠ openB := by
  refine ⟨?_, ?_⟩ <;> rintro rfl <;> revert h <;> decide +kernel
theorem tag_eval (on : List ByteArray) {x : ByteArray} (h : tagB x = true) (st : List Bool) (r : List ByteArray) : evalS on st (x :: r) = evalS on (inB on x :: st) r := by
  obtain ⟨h1, h2, h3⟩ := tag_ne h
  show (match stepE on st x with | none => none | some u => evalS on u r) = _
  unfold stepE
  rw [if_neg h1, if_neg h2, if_neg h3, h]
  rfl
theorem tag_part {x : ByteArray} (h : tagB x = true) {k : Nat} (hk : 1 ≤ k) (P Z : List ByteArray) (d : Nat) : lvlP k .part ⟨x :: Z, P, d⟩ = .ok ⟨Z, P ++ [x], d⟩ := by
  obtain ⟨k, rfl⟩ : ∃ j, k = j + 1 := ⟨k - 1, by omega⟩
  rw [lvlP]
  simp only
  rw [takeP_ne (tag_sign h).2]
  simp only
  rw [if_pos h]
/-- Whether a term holds. -/
def termV (on : List ByteArray) (t : ByteArray) : Bool := inB on (trimB t) != isNot t
theorem term_reads (on : List ByteArray) {t : ByteArray} (h : okT t = true) : Rdy on t.data.toList 0 (termV on t) := by
  have h' : tagB (trimB t) = true := h
  cases hn : isNot t with
  | false =>
    rw [trim_no hn] at h'
    obtain ⟨h0, h1⟩ := tag_shape h'
    refine ⟨[t], [t], ?_, ⟨2, ?_⟩, ?_⟩
    · intro z hz
      rw [tag_pieces h0 h1 hz]
      rfl
    · intro k P Z d hk hd
      obtain ⟨k, rfl⟩ : ∃ j, k = j + 1 := ⟨k - 1, by omega⟩
      rw [lvlP]
      simp only [List.cons_append, List.nil_append]
      rw [takeP_ne (tag_sign h').1]
      exact tag_part h' (by omega) P Z d
    · intro st r
      rw [List.cons_append, List.nil_append, tag_eval on h']
      unfold termV
      rw [trim_no hn, hn]
      simp
  | true =>
    obtain ⟨_, r, h2⟩ := trim_yes hn
    have h3 : trimB t = mkB r := by
      unfold trimB Lib.trimPrefix
      rw [h2]
      have hp : Lib.hasPrefix (33 :: r) [33] = true := by simp [Lib.hasPrefix, List.isPrefixOf]
      rw [hp]; simp
    rw [h3] at h'
    obtain ⟨h0, h1⟩ := tag_shape h'
    rw [mkB_toList] at h0 h1
    refine ⟨[notB, mkB r], [mkB r, notB], ?_, ⟨2, ?_⟩, ?_⟩
    · intro z hz
      rw [h2, List.cons_append, pieces_not, tag_pieces h0 h1 hz]
      rfl
    · intro k P Z d hk hd
      obtain ⟨k, rfl⟩ : ∃ j, k = j + 1 := ⟨k - 1, by omega⟩
      rw [lvlP]
      simp only [List.cons_append, List.nil_append]
      rw [takeP_eq rfl]
      simp only
      rw [tag_part h' (by omega) P Z d]
      simp
    · intro st q
      rw [List.cons_append, List.cons_append, List.nil_append, tag_eval on h']
      unfold termV
      rw [h3, hn]
      show (match stepE on (inB on (mkB r) :: st) notB with | none => none | some u => evalS on u q) = _
      have : (inB on (mkB r) != true) = !(inB on (mkB r)) := by cases inB on (mkB r) <;> rfl
      rw [this]
      rfl

theorem and_end {k : Nat} {P Z : List ByteArray} {d : Nat} (hk : 1 ≤ k) (hz : takeP andB Z = (false, Z)) : lvlP k .andsT ⟨Z, P, d⟩ = .ok ⟨Z, P, d⟩ := by
  obtain ⟨k, rfl⟩ : ∃ j, k = j + 1 := ⟨k - 1, by omega⟩
  rw [lvlP]
  simp only
  rw [hz]
theorem or_end {k : Nat} {P Z : List ByteArray} {d : Nat} (hk : 1 ≤ k) (hz : takeP orB Z = (false, Z)) : lvlP k .orsT ⟨Z, P, d⟩ = .ok ⟨Z, P, d⟩ := by
  obtain ⟨k, rfl⟩ : ∃ j, k = j + 1 := ⟨k - 1, by omega⟩
  rw [lvlP]
  simp only
  rw [hz]
def flat (sep : List UInt8) (g : ByteArray → ByteArray) : List ByteArray → List UInt8
  | [] => []
  | s :: r => sep ++ ((g s).data.toList ++ flat sep g r)
theorem flat_stop (a : List UInt8) (g : ByteArray → ByteArray) (ss : List ByteArray) {z : List UInt8} (hz : Stop z) : Stop (flat (32 :: a) g ss ++ z) := by
  cases ss with
  | nil => exact hz
  | cons s r => exact .inr ⟨32, a ++ ((g s).data.toList ++ flat (32 :: a) g r) ++ z, rfl, .inr rfl⟩
theorem join_flat (sep : List UInt8) (g : ByteArray → ByteArray) : ∀ (ss : List ByteArray) (s : ByteArray), Lib.join (((s :: ss).map g).map (·.data.toList)) sep = (g s).data.toList ++ flat sep g ss
  | [], s => by simp [Lib.join, flat]
  | t :: r, s => by
    have h1 := join_flat sep g r t
    have e : Lib.join (((s :: t :: r).map g).map (·.data.toList)) sep = (g s).data.toList ++ sep ++ Lib.join (((t :: r).map g).map (·.data.toList)) sep := by simp [Lib.join]
    rw [e, h1]
    simp only [flat, List.append_assoc]
theorem chain_and (on : List ByteArray) (g : ByteArray → ByteArray) (V : ByteArray → Bool) (h : Nat) : ∀ ss : List ByteArray, (∀ s ∈ ss, Rdy on (g s).data.toList h (V s)) →
    ∃ X l f, (∀ z, Stop z → pieces (flat [32, 38, 38, 32] g ss ++ z) = X ++ pieces z) ∧
      (∀ k P Z d, f ≤ k → d + h ≤ 64 → takeP andB Z = (false, Z) → lvlP k .andsT ⟨X ++ Z, P, d⟩ = .ok ⟨Z, P ++ l, d⟩) ∧
      (∀ v st r, evalS on (v :: st) (l ++ r) = evalS on ((v && ss.all V) :: st) r)
  | [], _ => ⟨[], [], 1, fun z _ => rfl, fun k P Z d hk hd hz => by rw [List.append_nil]; exact and_end hk hz, fun v st r => by simp⟩
  | s :: ss, H => by
    obtain ⟨Xs, ls, p1, ⟨f1, r1⟩, e1⟩ := H s List.mem_cons_self
    obtain ⟨Xr, lr, f2, p2, r2, e2⟩ := chain_and on g V h ss (fun x hx => H x (List.mem_cons_of_mem _ hx))
    refine ⟨andB :: (Xs ++ Xr), ls ++ (andB :: lr), f1 + f2 + 1, ?_, ?_, ?_⟩
    · intro z hz
      have hst : Stop (flat [32, 38, 38, 32] g ss ++ z) := flat_stop _ g ss hz
      show pieces (32 :: 38 :: 38 :: 32 :: (((g s).data.toList ++ flat [32, 38, 38, 32] g ss) ++ z)) = _
      rw [pieces_sp, pieces_and, pieces_sp, List.append_assoc, p1 _ hst, p2 z hz]
      simp
    · intro k P Z d hk hd hz
      obtain ⟨k, rfl⟩ : ∃ j, k = j + 1 := ⟨k - 1, by omega⟩
      rw [lvlP]
      simp only [List.cons_append, List.append_assoc]
      rw [takeP_eq rfl]
      simp only
      rw [r1 k P (Xr ++ Z) d (by omega) hd]
      simp only
      rw [r2 k _ Z d (by omega) hd hz]
      simp
    · intro v st r
      rw [List.append_assoc, e1, List.cons_append]
      show (match stepE on (V s :: v :: st) andB with | none => none | some u => evalS on u (lr ++ r)) = _
      show evalS on ((v && V s) :: st) (lr ++ r) = _
      rw [e2, List.all_cons, Bool.and_assoc]
theorem chain_or (on : List ByteArray) (g : ByteArray → ByteArray) (V : ByteArray → Bool) (h : Nat) : ∀ ss : List ByteArray, (∀ s ∈ ss, Rdy on (g s).data.toList h (V s)) →
    ∃ X l f, (X = [] ∨ ∃ q, X = orB :: q) ∧ (∀ z, Stop z → pieces (flat [32, 124, 124, 32] g ss ++ z) = X ++ pieces z) ∧
      (∀ k P Z d, f ≤ k → d + h ≤ 64 → takeP andB Z = (false, Z) → takeP orB Z = (false, Z) → lvlP k .orsT ⟨X ++ Z, P, d⟩ = .ok ⟨Z, P ++ l, d⟩) ∧
      (∀ v st r, evalS on (v :: st) (l ++ r) = evalS on ((v || ss.any V) :: st) r)
  | [], _ => ⟨[], [], 1, .inl rfl, fun z _ => rfl, fun k P Z d hk hd hz hz2 => by rw [List.append_nil]; exact or_end hk hz2, fun v st r => by simp⟩
  | s :: ss, H => by
    obtain ⟨Xs, ls, p1, ⟨f1, r1⟩, e1⟩ := H s List.mem_cons_self
    obtain ⟨Xr, lr, f2, hx, p2, r2, e2⟩ := chain_or on g V h ss (fun x hx => H x (List.mem_cons_of_mem _ hx))
    refine ⟨orB :: (Xs ++ Xr), ls ++ (orB :: lr), f1 + f2 + 3, .inr ⟨_, rfl⟩, ?_, ?_, ?_⟩
    · intro z hz
      have hst : Stop (flat [32, 124, 124, 32] g ss ++ z) := flat_stop _ g ss hz
      show pieces (32 :: 124 :: 124 :: 32 :: (((g s).data.toList ++ flat [32, 124, 124, 32] g ss) ++ z)) = _
      rw [pieces_sp, pieces_or, pieces_sp, List.append_assoc, p1 _ hst, p2 z hz]
      simp
    · intro k P Z d hk hd hz hz2
      have hna : takeP andB (Xr ++ Z) = (false, Xr ++ Z) := by
        rcases hx with rfl | ⟨q, rfl⟩
        · exact hz
        · exact takeP_ne sign_ne.2.2.1
      obtain ⟨k, rfl⟩ : ∃ j, k = j + 1 := ⟨k - 1, by omega⟩
      obtain ⟨k, rfl⟩ : ∃ j, k = j + 1 := ⟨k - 1, by omega⟩
      rw [lvlP]
      simp only [List.cons_append, List.append_assoc]
      rw [takeP_eq rfl]
      simp only
      rw [lvlP, r1 k P (Xr ++ Z) d (by omega) hd]
      simp only
      rw [and_end (by omega) hna]
      simp only
      rw [r2 (k + 1) _ Z d (by omega) hd hz hz2]
      simp
    · intro v st r
      rw [List.append_assoc, e1, List.cons_append]
      show (match stepE on (V s :: v :: st) orB with | none => none | some u => evalS on u (lr ++ r)) = _
      show evalS on ((v || V s) :: st) (lr ++ r) = _
      rw [e2, List.any_cons, Bool.or_assoc]
theorem wrap_list {sep : ByteArray} {a b : ByteArray} {r : List ByteArray} : (wrapB sep (a :: b :: r)).data.toList = 40 :: (Lib.join ((a :: b :: r).map (·.data.toList)) sep.data.toList ++ [41]) := by
  show (mkB _).data.toList = _
  rw [mkB_toList]
theorem shut_no (Z : List ByteArray) : takeP andB (shutB :: Z) = (false, shutB :: Z) ∧ takeP orB (shutB :: Z) = (false, shutB :: Z) := ⟨takeP_ne sign_ne.1.2, takeP_ne sign_ne.1.1⟩
/-- What is read within brackets. -/
theorem in_brackets {X l P Z : List ByteArray} {k d : Nat} (hd : d + 1 ≤ 64) (H : lvlP k .ors ⟨X ++ shutB :: Z, P, d + 1⟩ = .ok ⟨shutB :: Z, P ++ l, d + 1⟩) : lvlP (k + 3) .nots ⟨openB :: (X ++ shutB :: Z), P, d⟩ = .ok ⟨Z, P ++ l, d⟩ := by
  rw [lvlP]
  simp only
  rw [takeP_ne sign_ne.2.1.1]
  simp only
  rw [lvlP]
  simp only
  rw [takeP_eq rfl]
  simp only
  rw [lvlP]
  simp only
  rw [if_neg (by omega), H]
  simp only
  rw [takeP_eq rfl]
  simp
theorem wrap_and (on : List ByteArray) (g : ByteArray → ByteArray) (V : ByteArray → Bool) (h : Nat) (ss : List ByteArray) (hs : ss ≠ []) (H : ∀ s ∈ ss, Rdy on (g s).data.toList h (V s)) : Rdy on (wrapB andS (ss.map g)).data.toList (h + 1) (ss.all V) := by
  match ss, hs, H with
  | [s], _, H =>
    have := (H s List.mem_cons_self).more
    simpa [wrapB] using this
  | s :: t :: r, _, H =>
    obtain ⟨Xs, ls, p1, ⟨f1, r1⟩, e1⟩ := H s List.mem_cons_self
    obtain ⟨Xr, lr, f2, p2, r2, e2⟩ := chain_and on g V h (t :: r) (fun x hx => H x (List.mem_cons_of_mem _ hx))
    refine ⟨openB :: (Xs ++ (Xr ++ [shutB])), ls ++ lr, ?_, ⟨f1 + f2 + 6, ?_⟩, ?_⟩
    · intro z hz
      have hj := join_flat andS.data.toList g (t :: r) s
      simp only [List.map_cons] at hj ⊢
      rw [wrap_list]
      simp only [List.map_cons]
      rw [hj]
      show pieces (40 :: ((((g s).data.toList ++ flat [32, 38, 38, 32] g (t :: r)) ++ [41]) ++ z)) = _
      have hst : Stop (41 :: z) := .inr ⟨41, z, rfl, .inl rfl⟩
      rw [pieces_open, List.append_assoc, List.append_assoc]
      show openB :: pieces ((g s).data.toList ++ (flat _ g (t :: r) ++ 41 :: z)) = _
      rw [p1 _ (flat_stop _ g _ hst)]
      show openB :: (Xs ++ pieces (flat [32, 38, 38, 32] g (t :: r) ++ 41 :: z)) = _
      rw [p2 _ hst, pieces_shut]
      simp
    · intro k P Z d hk hd
      obtain ⟨k, rfl⟩ : ∃ j, k = j + 3 := ⟨k - 3, by omega⟩
      have e : openB :: (Xs ++ (Xr ++ [shutB])) ++ Z = openB :: ((Xs ++ Xr) ++ shutB :: Z) := by simp
      rw [e]
      refine in_brackets (by omega) ?_
      obtain ⟨k, rfl⟩ : ∃ j, k = j + 1 := ⟨k - 1, by omega⟩
      obtain ⟨k, rfl⟩ : ∃ j, k = j + 1 := ⟨k - 1, by omega⟩
      rw [lvlP, lvlP, List.append_assoc, r1 k P _ (d + 1) (by omega) (by omega)]
      simp only
      rw [r2 k _ _ (d + 1) (by omega) (by omega) (shut_no Z).1]
      simp only
      rw [or_end (by omega) (shut_no Z).2]
      simp
    · intro st q
      rw [List.append_assoc, e1, e2]; rfl
theorem wrap_or (on : List ByteArray) (g : ByteArray → ByteArray) (V : ByteArray → Bool) (h : Nat) (ss : List ByteArray) (hs : ss ≠ []) (H : ∀ s ∈ ss, Rdy on (g s).data.toList h (V s)) : Rdy on (wrapB orS (ss.map g)).data.toList (h + 1) (ss.any V) := by
  match ss, hs, H with
  | [s], _, H =>
    have := (H s List.mem_cons_self).more
    simpa [wrapB] using this
  | s :: t :: r, _, H =>
    obtain ⟨Xs, ls, p1, ⟨f1, r1⟩, e1⟩ := H s List.mem_cons_self
    obtain ⟨Xr, lr, f2, hx, p2, r2, e2⟩ := chain_or on g V h (t :: r) (fun x hx => H x (List.mem_cons_of_mem _ hx))
    refine ⟨openB :: (Xs ++ (Xr ++ [shutB])), ls ++ lr, ?_, ⟨f1 + f2 + 6, ?_⟩, ?_⟩
    · intro z hz
      have hj := join_flat orS.data.toList g (t :: r) s
      simp only [List.map_cons] at hj ⊢
      rw [wrap_list]
      simp only [List.map_cons]
      rw [hj]
      show pieces (40 :: ((((g s).data.toList ++ flat [32, 124, 124, 32] g (t :: r)) ++ [41]) ++ z)) = _
      have hst : Stop (41 :: z) := .inr ⟨41, z, rfl, .inl rfl⟩
      rw [pieces_open, List.append_assoc, List.append_assoc]
      show openB :: pieces ((g s).data.toList ++ (flat _ g (t :: r) ++ 41 :: z)) = _
      rw [p1 _ (flat_stop _ g _ hst)]
      show openB :: (Xs ++ pieces (flat [32, 124, 124, 32] g (t :: r) ++ 41 :: z)) = _
      rw [p2 _ hst, pieces_shut]
      simp
    · intro k P Z d hk hd
      have hna : takeP andB (Xr ++ shutB :: Z) = (false, Xr ++ shutB :: Z) := by
        rcases hx with rfl | ⟨q, rfl⟩
        · exact (shut_no Z).1
        · exact takeP_ne sign_ne.2.2.1
      obtain ⟨k, rfl⟩ : ∃ j, k = j + 3 := ⟨k - 3, by omega⟩
      have e : openB :: (Xs ++ (Xr ++ [shutB])) ++ Z = openB :: ((Xs ++ Xr) ++ shutB :: Z) := by simp
      rw [e]
      refine in_brackets (by omega) ?_
      obtain ⟨k, rfl⟩ : ∃ j, k = j + 1 := ⟨k - 1, by omega⟩
      obtain ⟨k, rfl⟩ : ∃ j, k = j + 1 := ⟨k - 1, by omega⟩
      rw [lvlP, lvlP, List.append_assoc, r1 k P _ (d + 1) (by omega) (by omega)]
      simp only
      rw [and_end (by omega) hna]
      simp only
      rw [r2 (k + 1) _ _ (d + 1) (by omega) (by omega) (shut_no Z).1 (shut_no Z).2]
      simp
    · intro st q
      rw [List.append_assoc, e1, e2]; rfl

/-- Whether options, lines, hold. -/
def optV (on : List ByteArray) (o : ByteArray) : Bool := (cutB 44 o).all (termV on)
def lineV (on : List ByteArray) (s : ByteArray) : Bool := (wordsB s).any (optV on)
theorem cutB_ne0 (c : UInt8) (s : ByteArray) : cutB c s ≠ [] := by
  have := cutB_some c s
  intro e
  rw [e] at this
  cases this
theorem opt_reads (on : List ByteArray) {o : ByteArray} (h : okO o = true) : Rdy on (valO o).data.toList 1 (optV on o) :=
  wrap_and on idB (termV on) 0 (cutB 44 o) (cutB_ne0 _ _) (fun s hs => term_reads on (List.all_eq_true.1 h s hs))
theorem line_reads (on : List ByteArray) {s : ByteArray} (h : okL s = true) : Rdy on (valL s).data.toList 2 (lineV on s) := by
  unfold okL at h
  rw [Bool.and_eq_true] at h
  refine wrap_or on valO (optV on) 1 (wordsB s) ?_ (fun o ho => opt_reads on (List.all_eq_true.1 h.2 o ho))
  intro e
  rw [e] at h
  cases h.1
theorem lines_reads (on : List ByteArray) {l : List ByteArray} (h : okLs l = true) : Rdy on (valLs l).data.toList 3 (l.all (lineV on)) := by
  unfold okLs at h
  rw [Bool.and_eq_true] at h
  refine wrap_and on valL (lineV on) 2 l ?_ (fun o ho => line_reads on (List.all_eq_true.1 h.2 o ho))
  intro e
  rw [e] at h
  cases h.1
theorem reads_parse {on : List ByteArray} {s : ByteArray} {h : Nat} {v : Bool} (H : Rdy on s.data.toList h v) (hh : h ≤ 64) (hs : s.size ≤ 1024) : ∃ l, parseR s = (l, 0) ∧ evalR on l = (v, 0) := by
  obtain ⟨X, l, p, ⟨f, r⟩, e⟩ := H
  refine ⟨l, of_pieces (n := f + 3) hs ?_, ?_⟩
  · have hp := p [] (.inl rfl)
    rw [List.append_nil, pieces_nil] at hp
    rw [hp, lvlP, lvlP, r (f + 1) [] [] 0 (by omega) (by omega)]
    simp only
    rw [and_end (by omega) rfl]
    simp only
    rw [or_end (by omega) rfl]
    simp
  · have := e [] []
    rw [List.append_nil] at this
    unfold evalR
    rw [this]
    rfl
end Go.Proofs.YtfkmijdpcenieaaDoor
