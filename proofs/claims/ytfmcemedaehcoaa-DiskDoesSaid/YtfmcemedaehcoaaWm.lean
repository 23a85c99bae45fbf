/- Walks: what the calls do, in the words of files by names: a list of names, bytes, safe counts. -/
import Derived.Test.YtfmcemedaehcoaaWl
namespace Go.Proofs.Ytfmcemedaehcoaa
set_option linter.unusedVariables false
set_option linter.unusedSimpArgs false
open Go.ChangeShapes Go.WideShapes Go.ChangeAt Go.RowKit Go.ChangeMaps

abbrev Ab := ByteArray × List UInt8 × Nat
def absF (f : Fl) : Ab := (f.nm, f.d, f.s)
def lookA (A : List Ab) (x : ByteArray) : Option Ab := A.find? (fun y => decide (y.1 = x))
def updA (A : List Ab) (y : Ab) : List Ab := if (lookA A y.1).isSome = true then A.map (fun g => if g.1 = y.1 then y else g) else A ++ [y]
def drpA (A : List Ab) (x : ByteArray) : List Ab := A.filter (fun g => decide (g.1 ≠ x))
def loseA (keep : Int) (torn : Bool) (y : Ab) : Ab := (y.1, loseD keep torn y.2.1 y.2.2, (loseD keep torn y.2.1 y.2.2).length)
def totA (A : List Ab) : Nat := (A.map fun y => y.2.1.length).sum
def findA (h : Hd) (A : List Ab) (x : ByteArray) : Int := if readyE h x ≠ 0 then readyE h x else if (lookA A x).isSome = true then 0 else 5
def apdA (A : List Ab) (x : ByteArray) (c : List UInt8) : List Ab := updA A (match lookA A x with | some y => (x, y.2.1 ++ c, y.2.2) | none => (x, c, 0))
def synA (A : List Ab) (x : ByteArray) : List Ab := match lookA A x with | some y => updA A (x, y.2.1, y.2.1.length) | none => A
def cutA (A : List Ab) (x : ByteArray) (n : Nat) : List Ab := match lookA A x with | some y => updA A (x, y.2.1.take (min n y.2.1.length), min y.2.2 (min n y.2.1.length)) | none => A
def renA (A : List Ab) (x z : ByteArray) : List Ab := match lookA A x with | some y => updA (drpA A x) (z, y.2.1, y.2.2) | none => A
theorem lookA_abs (L : List Fl) (x : ByteArray) : lookA (L.map absF) x = (look L x).map absF := by
  unfold lookA look
  induction L with
  | nil => rfl
  | cons f r ih =>
    simp only [List.map_cons, List.find?_cons]
    by_cases e : f.nm = x
    · simp [absF, e]
    · simp only [absF, e, decide_false]; simpa [absF] using ih
theorem updA_abs (L : List Fl) (f : Fl) : (upd L f).map absF = updA (L.map absF) (absF f) := by
  unfold upd updA
  have h := lookA_abs L f.nm
  rw [show (absF f).1 = f.nm from rfl, h, Option.isSome_map]
  by_cases e : (look L f.nm).isSome = true
  · rw [if_pos e, if_pos e, List.map_map, List.map_map]
    refine List.map_congr_left fun g _ => ?_
    simp only [Function.comp]
    by_cases e2 : g.nm = f.nm
    · rw [if_pos e2, if_pos (show (absF g).1 = f.nm from e2)]
    · rw [if_neg e2, if_neg (show ¬ (absF g).1 = f.nm from e2)]
  · rw [if_neg e, if_neg e, List.map_append]; rfl
theorem drpA_abs (L : List Fl) (x : ByteArray) : (drp L x).map absF = drpA (L.map absF) x := by
  unfold drp drpA
  rw [List.filter_map]; rfl
theorem loseA_abs (L : List Fl) (k : Int) (t : Bool) : (L.map (loseF k t)).map absF = (L.map absF).map (loseA k t) := by
  rw [List.map_map, List.map_map]; rfl
theorem totA_abs (L : List Fl) : totA (L.map absF) = total L := by
  unfold totA total
  rw [List.map_map]; rfl
theorem findA_abs (h : Hd) (L : List Fl) (x : ByteArray) : findA h (L.map absF) x = findE h L x := by
  unfold findA findE
  rw [lookA_abs, Option.isSome_map]
theorem Apd.abs {L L2 : List Fl} {x : ByteArray} {c : List UInt8} (h : Apd L x c L2) : L2.map absF = apdA (L.map absF) x c := by
  obtain ⟨f', h1, h2, h3, rfl⟩ := h
  rw [updA_abs]
  unfold apdA
  rw [lookA_abs]
  congr 1
  unfold absF
  rw [h1, h2, h3]
  unfold datL safL
  cases look L x with
  | none => rfl
  | some f => rfl
theorem SyE.abs {L L2 : List Fl} {x : ByteArray} (h : SyE L x L2) : L2.map absF = synA (L.map absF) x := by
  obtain ⟨f, hl, rfl⟩ := h
  unfold synA
  rw [lookA_abs, hl, updA_abs, ← (look_some hl).2]; rfl
theorem CuE.abs {L L2 : List Fl} {x : ByteArray} {n : Nat} (h : CuE L x n L2) : L2.map absF = cutA (L.map absF) x n := by
  obtain ⟨f, hl, rfl⟩ := h
  unfold cutA
  rw [lookA_abs, hl, updA_abs, ← (look_some hl).2]; rfl
theorem RnE.abs {L L2 : List Fl} {x y : ByteArray} (h : RnE L x y L2) : L2.map absF = renA (L.map absF) x y := by
  obtain ⟨f, hl, rfl⟩ := h
  unfold renA
  rw [lookA_abs, hl, updA_abs, drpA_abs]; rfl
/-- The blocks from B on below n. -/
def In (B n k : Nat) : Prop := B ≤ k ∧ k < n
structure DA (B n b : Nat) (h : Hd) (A : List Ab) (w : World) : Prop where
  e : ∃ S L, L.map absF = A ∧ Dev S b h L w ∧ ∀ k, S k → In B n k
  n : n ≤ w.heap.size
theorem DA.below {B n b : Nat} {h : Hd} {A : List Ab} {w w' : World} (d : DA B n b h A w) (hB : Below w.heap.size w w') : DA B n b h A w' := by
  obtain ⟨S, L, h1, h2, h3⟩ := d.e
  exact ⟨⟨S, L, h1, h2.below hB, h3⟩, Nat.le_trans d.n hB.size⟩
/-- An act: what is answered, and what is then. -/
def stepA (h : Hd) (A A1 : List Ab) (pre stays : Int) : Int × Hd × List Ab :=
  if pre ≠ 0 then (pre, h, A)
  else if h.left ≠ 1 then (0, ⟨h.room, h.acts + 1, false, max (h.left - 1) 0, h.keep, h.torn⟩, A1)
  else (7, ⟨h.room, h.acts + 1, true, 0, 0, false⟩, (if doesB stays h.keep = true then A1 else A).map (loseA h.keep h.torn))
structure StepA (B n b : Nat) (w : World) (r : Int × Hd × List Ab) (e : Ending) (w' : World) : Prop where
  e : e = .returned (.int .i64 r.1)
  d : DA B w'.heap.size b r.2.1 r.2.2 w'
  k : Kept (In B n) w w'
theorem gr_in {S : Nat → Prop} {B n : Nat} {w w' : World} (hS : ∀ k, S k → In B n k) (hn : n ≤ w.heap.size) (hB : B ≤ n) (hs : w.heap.size ≤ w'.heap.size) : ∀ k, Gr S w w' k → In B w'.heap.size k := fun k hk => by
  rcases hk with hk | hk
  · have := hS k hk; exact ⟨this.1, by have := this.2; omega⟩
  · exact ⟨by omega, hk.2⟩
theorem OpR.step {S : Nat → Prop} {B n b : Nat} {h : Hd} {L : List Fl} {pre stays : Int} {E : List Fl → Prop} {w w' : World} {e : Ending} {A1 : List Ab} (o : OpR S b h L pre stays E w e w') (hE : ∀ L2, E L2 → L2.map absF = A1) (hS : ∀ k, S k → In B n k) (hn : n ≤ w.heap.size) (hB : B ≤ n) :
    StepA B n b w (stepA h (L.map absF) A1 pre stays) e w' := by
  unfold stepA
  rcases o.r with ⟨h1, h2, h3, h4⟩ | ⟨h1, a⟩
  · rw [if_pos h1]
    exact ⟨h2, ⟨⟨_, L, rfl, h3, gr_in hS hn hB h4.size⟩, Nat.le_refl _⟩, h4.mono hS⟩
  · rw [if_neg (by simp [h1])]
    rcases a.r with ⟨h2, h3, L2, h4, h5⟩ | ⟨h2, h3, L2, h4, h5⟩
    · rw [if_pos h2]
      exact ⟨h3, ⟨⟨_, L2, hE L2 h4, h5, gr_in hS hn hB a.k.size⟩, Nat.le_refl _⟩, a.k.mono hS⟩
    · rw [if_neg (by simp [h2])]
      refine ⟨h3, ⟨⟨_, _, ?_, h5, gr_in hS hn hB a.k.size⟩, Nat.le_refl _⟩, a.k.mono hS⟩
      rw [loseA_abs]
      by_cases hd : doesB stays h.keep = true
      · rw [if_pos hd] at h4 ⊢; rw [hE L2 h4]
      · rw [if_neg hd] at h4 ⊢; rw [h4]
/-- What is asked of a device's numbers. -/
structure HdOk (h : Hd) : Prop where
  room : 0 ≤ h.room ∧ h.room ≤ 1048576
  left : 0 ≤ h.left ∧ h.left ≤ 9223372036854775807
  acts : 0 ≤ h.acts ∧ h.acts ≤ 1099511627776
theorem tot_le {A : List Ab} {y : Ab} (hf : y ∈ A) : y.2.1.length ≤ totA A := by
  unfold totA
  induction A with
  | nil => cases hf
  | cons g r ih =>
    rcases List.mem_cons.1 hf with rfl | h
    · simp
    · have := ih h; simp only [List.map_cons, List.sum_cons]; omega
theorem newA (room : Int) (w : World) : Calls Try.prog 12 #[.int .i64 room] w fun e w' => e = .returned (.pointer (some ⟨w.heap.size + 1, 0, none⟩)) ∧ DA w.heap.size w'.heap.size (w.heap.size + 1) (newH room) [] w' ∧ Below w.heap.size w w' :=
  (new_any room w).mono fun e w' ⟨h1, h2, h3, h4⟩ => ⟨h1, ⟨⟨_, [], rfl, h2, fun k hk => ⟨hk.1, by rw [h4]; exact hk.2⟩⟩, Nat.le_refl _⟩, h3⟩
theorem appendA {B n b : Nat} {h : Hd} {A : List Ab} {w : World} (d : DA B n b h A w) (hB : B ≤ n) (ho : HdOk h) (ht : totA A ≤ 1048576) (hn : A.length ≤ 1048576) (x : ByteArray) (u : Value) (c : List UInt8) (hu : Byt (In B n) w u c) (hc : c.length ≤ 16777216) :
    Calls Try.prog 27 #[.pointer (some ⟨b, 0, none⟩), .string x, u] w (StepA B n b w (stepA h A (apdA A x c) (if readyE h x ≠ 0 then readyE h x else if h.room - (totA A : Nat) < (c.length : Nat) then 6 else 0) 0)) := by
  obtain ⟨S, L, rfl, h2, h3⟩ := d.e
  rw [totA_abs] at ht ⊢
  exact (append_any h2 (fun k hk => Nat.lt_of_lt_of_le (h3 k hk).2 d.n) x u c ⟨fun w1 hk => hu.a w1 (hk.mono h3)⟩ ho.room ht ho.left ho.acts (by simpa using hn) hc).mono fun e w' o => o.step (fun L2 => Apd.abs) h3 d.n hB
theorem len_of {L : List Fl} (ht : totA (L.map absF) ≤ 1048576) : ∀ f ∈ L, f.d.length ≤ 16777216 := fun f hf => by
  rw [totA_abs] at ht
  have := total_le hf; omega
theorem syncA {B n b : Nat} {h : Hd} {A : List Ab} {w : World} (d : DA B n b h A w) (hB : B ≤ n) (ho : HdOk h) (ht : totA A ≤ 1048576) (x : ByteArray) :
    Calls Try.prog 28 #[.pointer (some ⟨b, 0, none⟩), .string x] w (StepA B n b w (stepA h A (synA A x) (findA h A x) 2)) := by
  obtain ⟨S, L, rfl, h2, h3⟩ := d.e
  rw [findA_abs]
  exact (sync_any h2 (fun k hk => Nat.lt_of_lt_of_le (h3 k hk).2 d.n) x (len_of ht) ho.left ho.acts).mono fun e w' o => o.step (fun L2 => SyE.abs) h3 d.n hB
theorem cutA_any {B n b : Nat} {h : Hd} {A : List Ab} {w : World} (d : DA B n b h A w) (hB : B ≤ n) (ho : HdOk h) (ht : totA A ≤ 1048576) (x : ByteArray) (m : Int) (hm : -9223372036854775808 ≤ m ∧ m ≤ 9223372036854775807) :
    Calls Try.prog 29 #[.pointer (some ⟨b, 0, none⟩), .string x, .int .i64 m] w (StepA B n b w (stepA h A (cutA A x m.toNat) (if findA h A x ≠ 0 then findA h A x else if m < 0 then 1 else 0) 1)) := by
  obtain ⟨S, L, rfl, h2, h3⟩ := d.e
  rw [findA_abs]
  exact (cut_any h2 (fun k hk => Nat.lt_of_lt_of_le (h3 k hk).2 d.n) x (len_of ht) ho.left ho.acts m hm).mono fun e w' o => o.step (fun L2 => CuE.abs) h3 d.n hB
theorem removeA {B n b : Nat} {h : Hd} {A : List Ab} {w : World} (d : DA B n b h A w) (hB : B ≤ n) (ho : HdOk h) (ht : totA A ≤ 1048576) (x : ByteArray) (hx : x.size ≤ maxLen) :
    Calls Try.prog 31 #[.pointer (some ⟨b, 0, none⟩), .string x] w (StepA B n b w (stepA h A (drpA A x) (findA h A x) 1)) := by
  obtain ⟨S, L, rfl, h2, h3⟩ := d.e
  rw [findA_abs]
  exact (remove_any h2 (fun k hk => Nat.lt_of_lt_of_le (h3 k hk).2 d.n) x (len_of ht) ho.left ho.acts hx).mono fun e w' o => o.step (fun L2 h => by rw [h]; exact drpA_abs L x) h3 d.n hB
theorem renameA {B n b : Nat} {h : Hd} {A : List Ab} {w : World} (d : DA B n b h A w) (hB : B ≤ n) (ho : HdOk h) (ht : totA A ≤ 1048576) (hn : A.length ≤ 1048576) (x y : ByteArray) :
    Calls Try.prog 30 #[.pointer (some ⟨b, 0, none⟩), .string x, .string y] w (StepA B n b w (stepA h A (renA A x y) (if findA h A x ≠ 0 then findA h A x else if goodN y = true then 0 else 1) 1)) := by
  obtain ⟨S, L, rfl, h2, h3⟩ := d.e
  rw [findA_abs]
  exact (rename_any h2 (fun k hk => Nat.lt_of_lt_of_le (h3 k hk).2 d.n) x (len_of ht) ho.left ho.acts y (by simpa using hn)).mono fun e w' o => o.step (fun L2 => RnE.abs) h3 d.n hB
theorem offA {B n b : Nat} {h : Hd} {A : List Ab} {w : World} (d : DA B n b h A w) (ht : totA A ≤ 1048576) (keep : Int) (torn : Bool) :
    Calls Try.prog 25 #[.pointer (some ⟨b, 0, none⟩), .int .i64 keep, .bool torn] w fun e w' => e = .returned (.tuple #[]) ∧ DA B n b (if h.down = true then h else offH h) (if h.down = true then A else A.map (loseA keep torn)) w' ∧ Kept (In B n) w w' := by
  obtain ⟨S, L, rfl, h2, h3⟩ := d.e
  by_cases hd : h.down = true
  · rw [if_pos hd, if_pos hd]
    exact (off_down h2 hd keep torn).mono fun e w' ⟨h4, h5⟩ => by subst h5; exact ⟨h4, d, Kept.refl _ _⟩
  · rw [if_neg hd, if_neg hd]
    exact (off_any h2 (by simpa using hd) keep torn (len_of ht)).mono fun e w' ⟨h4, h5, h6⟩ => ⟨h4, ⟨⟨S, _, loseA_abs L keep torn, h5, h3⟩, Nat.le_trans d.n h6.size⟩, h6.mono h3⟩
theorem onA {B n b : Nat} {h : Hd} {A : List Ab} {w : World} (d : DA B n b h A w) : Calls Try.prog 22 #[.pointer (some ⟨b, 0, none⟩)] w fun e w' => e = .returned (.tuple #[]) ∧ DA B n b { h with down := false } A w' ∧ Kept (In B n) w w' := by
  obtain ⟨S, L, rfl, h2, h3⟩ := d.e
  exact (on_any h2).mono fun e w' ⟨h4, h5, h6, _⟩ => ⟨h4, ⟨⟨S, L, rfl, h5, h3⟩, Nat.le_trans d.n h6.size⟩, h6.mono h3⟩
theorem armA {B n b : Nat} {h : Hd} {A : List Ab} {w : World} (d : DA B n b h A w) (m k : Int) (torn : Bool) : Calls Try.prog 26 #[.pointer (some ⟨b, 0, none⟩), .int .i64 m, .int .i64 k, .bool torn] w fun e w' => e = .returned (.tuple #[]) ∧ DA B n b { h with left := max m 0, keep := k, torn := torn } A w' ∧ Kept (In B n) w w' := by
  obtain ⟨S, L, rfl, h2, h3⟩ := d.e
  exact (arm_any h2 m k torn).mono fun e w' ⟨h4, h5, h6, _⟩ => ⟨h4, ⟨⟨S, L, rfl, h5, h3⟩, Nat.le_trans d.n h6.size⟩, h6.mono h3⟩
theorem freeA {B n b : Nat} {h : Hd} {A : List Ab} {w : World} (d : DA B n b h A w) (ho : HdOk h) (ht : totA A ≤ 1048576) : Calls Try.prog 17 #[.pointer (some ⟨b, 0, none⟩)] w fun e w' => e = .returned (.int .i64 (h.room - (totA A : Nat))) ∧ Below w.heap.size w w' := by
  obtain ⟨S, L, rfl, h2, h3⟩ := d.e
  rw [totA_abs] at ht ⊢
  exact free_any h2 ho.room (by omega)
/-- What Read answers. -/
structure ReadA (w : World) (h : Hd) (A : List Ab) (x : ByteArray) (e : Ending) (w' : World) : Prop where
  r : (findA h A x ≠ 0 ∧ e = .returned (.tuple #[.slice none 0 0, .int .i64 (findA h A x)])) ∨ (findA h A x = 0 ∧ ∃ v' y, e = .returned (.tuple #[v', .int .i64 0]) ∧ lookA A x = some y ∧ w'.ownsRow w.heap.size 5 1 v' y.2.1.length (LF bV y.2.1))
  b : Below w.heap.size w w'
theorem readA {B n b : Nat} {h : Hd} {A : List Ab} {w : World} (d : DA B n b h A w) (ht : totA A ≤ 1048576) (x : ByteArray) : Calls Try.prog 23 #[.pointer (some ⟨b, 0, none⟩), .string x] w (ReadA w h A x) := by
  obtain ⟨S, L, rfl, h2, h3⟩ := d.e
  have hf := findA_abs h L x
  by_cases he : findE h L x = 0
  · exact (read_ok h2 (len_of ht) x he).mono fun e w' ⟨v', f, h4, h5, h6, h7⟩ => ⟨.inr ⟨hf.trans he, v', absF f, h4, by rw [lookA_abs, h6]; rfl, h7⟩, h5⟩
  · exact (read_err h2 x he).mono fun e w' ⟨h4, h5⟩ => by subst h5; exact ⟨.inl ⟨by rw [hf]; exact he, by rw [hf]; exact h4⟩, Below.refl _ _⟩
end Go.Proofs.Ytfmcemedaehcoaa
