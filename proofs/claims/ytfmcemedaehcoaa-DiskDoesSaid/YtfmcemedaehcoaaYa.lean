/- Both devices side by side: what each call does to one of them, in the blocks that are its own. -/
import Derived.Test.YtfmcemedaehcoaaXj
namespace Go.Proofs.Ytfmcemedaehcoaa
set_option linter.unusedVariables false
set_option linter.unusedSimpArgs false
open Go.ChangeShapes Go.WideShapes Go.ChangeAt Go.RowKit Go.ChangeMaps

def DV (T : Nat → Prop) (b : Nat) (h : Hd) (A : List Ab) (w : World) : Prop := ∃ L, L.map absF = A ∧ Dev T b h L w
structure RV (T : Nat → Prop) (b : Nat) (h : Hd) (A : List Ab) (w : World) : Prop where
  r : ∃ v, w.heap[b]? = some (.cells (rV h v) 36 (0, 0)) ∧ LAt 3 fV w v A ∧ ∀ g, v.ownBlock = some g → g ≠ b ∧ T g
  s : T b
theorem DV.below {T : Nat → Prop} {b : Nat} {h : Hd} {A : List Ab} {w w' : World} (d : DV T b h A w) (hB : Below w.heap.size w w') : DV T b h A w' := by
  obtain ⟨L, h1, h2⟩ := d
  exact ⟨L, h1, h2.below hB⟩
theorem DV.kept {T T2 : Nat → Prop} {b : Nat} {h : Hd} {A : List Ab} {w w' : World} (d : DV T b h A w) (hk : Kept T2 w w') (hd : ∀ k, T k → ¬ T2 k) : DV T b h A w' := by
  obtain ⟨L, h1, h2⟩ := d
  exact ⟨L, h1, h2.kept hk hd⟩
theorem DV.mono {T T2 : Nat → Prop} {b : Nat} {h : Hd} {A : List Ab} {w : World} (d : DV T b h A w) (hd : ∀ k, T k → T2 k) : DV T2 b h A w := by
  obtain ⟨L, h1, h2⟩ := d
  exact ⟨L, h1, h2.mono hd⟩
theorem RV.rd {T : Nat → Prop} {b : Nat} {h : Hd} {A : List Ab} {w : World} (d : RV T b h A w) : Rd T w b h A w := by
  obtain ⟨v, h1, h2, h3⟩ := d.r
  exact ⟨⟨v, h1, h2, fun g hg => ⟨(h3 g hg).1, .inl (h3 g hg).2⟩⟩, .inl d.s, Kept.refl _ _⟩
theorem Rd.rv {T : Nat → Prop} {b : Nat} {h : Hd} {A : List Ab} {w w' : World} (d : Rd T w b h A w') : RV (Gr T w w') b h A w' := ⟨d.r, d.s⟩
theorem RV.kept {T T2 : Nat → Prop} {b : Nat} {h : Hd} {A : List Ab} {w w' : World} (d : RV T b h A w) (hk : Kept T2 w w') (hb : ∀ k, T k → k < w.heap.size) (hd : ∀ k, T k → ¬ T2 k) : RV T b h A w' := by
  obtain ⟨v, h1, h2, h3⟩ := d.r
  exact ⟨⟨v, (hk.block b (hb b d.s) (hd b d.s)).trans h1, h2.other hk.size (fun g hg => hk.block g (hb g (h3 g hg).2) (hd g (h3 g hg).2)), h3⟩, d.s⟩
theorem RV.mono {T T2 : Nat → Prop} {b : Nat} {h : Hd} {A : List Ab} {w : World} (d : RV T b h A w) (hd : ∀ k, T k → T2 k) : RV T2 b h A w := by
  obtain ⟨v, h1, h2, h3⟩ := d.r
  exact ⟨⟨v, h1, h2, fun g hg => ⟨(h3 g hg).1, hd g (h3 g hg).2⟩⟩, hd b d.s⟩
theorem RV.below {T : Nat → Prop} {b : Nat} {h : Hd} {A : List Ab} {w w' : World} (d : RV T b h A w) (hB : Below w.heap.size w w') : RV T b h A w' := by
  obtain ⟨v, h1, h2, h3⟩ := d.r
  exact ⟨⟨v, (hB.block b (lt_of_block h1)).trans h1, h2.below hB, h3⟩, d.s⟩
theorem DV.nd {T : Nat → Prop} {b : Nat} {h : Hd} {A : List Ab} {w : World} (d : DV T b h A w) : (A.map (·.1)).Nodup := by
  obtain ⟨L, rfl, h2⟩ := d
  rw [List.map_map]
  exact h2.nm
theorem DV.safe {T : Nat → Prop} {b : Nat} {h : Hd} {A : List Ab} {w : World} (d : DV T b h A w) : ∀ y ∈ A, y.2.2 ≤ y.2.1.length := by
  obtain ⟨L, rfl, h2⟩ := d
  intro y hy
  obtain ⟨f, hf, rfl⟩ := List.mem_map.1 hy
  exact (h2.fo f hf).le
/-- What a call does to the device that it is made of. -/
structure CR (T : Nat → Prop) (b : Nat) (w : World) (r : Int × Hd × List Ab) (e : Ending) (w' : World) : Prop where
  e : e = .returned (.int .i64 r.1)
  d : DV (Gr T w w') b r.2.1 r.2.2 w'
  k : Kept T w w'
structure RR (T : Nat → Prop) (b : Nat) (w : World) (r : Int × Hd × List Ab) (e : Ending) (w' : World) : Prop where
  e : e = .returned (.int .i64 r.1)
  d : RV (Gr T w w') b r.2.1 r.2.2 w'
  k : Kept T w w'
theorem OpR.cr {S : Nat → Prop} {b : Nat} {h : Hd} {L : List Fl} {pre stays : Int} {E : List Fl → Prop} {w w' : World} {e : Ending} {A1 : List Ab} (o : OpR S b h L pre stays E w e w') (hE : ∀ L2, E L2 → L2.map absF = A1) : CR S b w (stepA h (L.map absF) A1 pre stays) e w' := by
  unfold stepA
  rcases o.r with ⟨h1, h2, h3, h4⟩ | ⟨h1, a⟩
  · rw [if_pos h1]
    exact ⟨h2, ⟨L, rfl, h3⟩, h4⟩
  · rw [if_neg (by simp [h1])]
    rcases a.r with ⟨h2, h3, L2, h4, h5⟩ | ⟨h2, h3, L2, h4, h5⟩
    · rw [if_pos h2]
      exact ⟨h3, ⟨L2, hE L2 h4, h5⟩, a.k⟩
    · rw [if_neg (by simp [h2])]
      refine ⟨h3, ⟨_, ?_, h5⟩, a.k⟩
      rw [loseA_abs]
      by_cases hd : doesB stays h.keep = true
      · rw [if_pos hd] at h4 ⊢; rw [hE L2 h4]
      · rw [if_neg hd] at h4 ⊢; rw [h4]
section
variable {T : Nat → Prop} {b : Nat} {h : Hd} {A : List Ab} {w : World}
theorem cAppend (d : DV T b h A w) (hT : ∀ k, T k → k < w.heap.size) (ho : HdOk h) (ht : totA A ≤ 1048576) (hn : A.length ≤ 1048576) (x : ByteArray) (u : Value) (c : List UInt8) (hu : Byt T w u c) (hc : c.length ≤ 16777216) :
    Calls Try.prog 27 #[.pointer (some ⟨b, 0, none⟩), .string x, u] w (CR T b w (stepA h A (apdA A x c) (if readyE h x ≠ 0 then readyE h x else if h.room - (totA A : Nat) < (c.length : Nat) then 6 else 0) 0)) := by
  obtain ⟨L, rfl, h2⟩ := d
  rw [totA_abs] at ht ⊢
  exact (append_any h2 hT x u c hu ho.room ht ho.left ho.acts (by simpa using hn) hc).mono fun e w' o => o.cr (fun L2 => Apd.abs)
theorem cSync (d : DV T b h A w) (hT : ∀ k, T k → k < w.heap.size) (ho : HdOk h) (ht : totA A ≤ 1048576) (x : ByteArray) :
    Calls Try.prog 28 #[.pointer (some ⟨b, 0, none⟩), .string x] w (CR T b w (stepA h A (synA A x) (findA h A x) 2)) := by
  obtain ⟨L, rfl, h2⟩ := d
  rw [findA_abs]
  exact (sync_any h2 hT x (len_of ht) ho.left ho.acts).mono fun e w' o => o.cr (fun L2 => SyE.abs)
theorem cCut (d : DV T b h A w) (hT : ∀ k, T k → k < w.heap.size) (ho : HdOk h) (ht : totA A ≤ 1048576) (x : ByteArray) (m : Int) (hm : -9223372036854775808 ≤ m ∧ m ≤ 9223372036854775807) :
    Calls Try.prog 29 #[.pointer (some ⟨b, 0, none⟩), .string x, .int .i64 m] w (CR T b w (stepA h A (cutA A x m.toNat) (if findA h A x ≠ 0 then findA h A x else if m < 0 then 1 else 0) 1)) := by
  obtain ⟨L, rfl, h2⟩ := d
  rw [findA_abs]
  exact (cut_any h2 hT x (len_of ht) ho.left ho.acts m hm).mono fun e w' o => o.cr (fun L2 => CuE.abs)
theorem cRemove (d : DV T b h A w) (hT : ∀ k, T k → k < w.heap.size) (ho : HdOk h) (ht : totA A ≤ 1048576) (x : ByteArray) (hx : x.size ≤ maxLen) :
    Calls Try.prog 31 #[.pointer (some ⟨b, 0, none⟩), .string x] w (CR T b w (stepA h A (drpA A x) (findA h A x) 1)) := by
  obtain ⟨L, rfl, h2⟩ := d
  rw [findA_abs]
  exact (remove_any h2 hT x (len_of ht) ho.left ho.acts hx).mono fun e w' o => o.cr (fun L2 h => by rw [h]; exact drpA_abs L x)
theorem cRename (d : DV T b h A w) (hT : ∀ k, T k → k < w.heap.size) (ho : HdOk h) (ht : totA A ≤ 1048576) (hn : A.length ≤ 1048576) (x y : ByteArray) :
    Calls Try.prog 30 #[.pointer (some ⟨b, 0, none⟩), .string x, .string y] w (CR T b w (stepA h A (renA A x y) (if findA h A x ≠ 0 then findA h A x else if goodN y = true then 0 else 1) 1)) := by
  obtain ⟨L, rfl, h2⟩ := d
  rw [findA_abs]
  exact (rename_any h2 hT x (len_of ht) ho.left ho.acts y (by simpa using hn)).mono fun e w' o => o.cr (fun L2 => RnE.abs)
theorem cOff (d : DV T b h A w) (ht : totA A ≤ 1048576) (keep : Int) (torn : Bool) :
    Calls Try.prog 25 #[.pointer (some ⟨b, 0, none⟩), .int .i64 keep, .bool torn] w fun e w' => e = .returned (.tuple #[]) ∧ DV T b (if h.down = true then h else offH h) (if h.down = true then A else A.map (loseA keep torn)) w' ∧ Kept T w w' := by
  have d0 := d
  obtain ⟨L, rfl, h2⟩ := d
  by_cases hd : h.down = true
  · rw [if_pos hd, if_pos hd]
    exact (off_down h2 hd keep torn).mono fun e w' ⟨h4, h5⟩ => by subst h5; exact ⟨h4, d0, Kept.refl _ _⟩
  · rw [if_neg hd, if_neg hd]
    exact (off_any h2 (by simpa using hd) keep torn (len_of ht)).mono fun e w' ⟨h4, h5, h6⟩ => ⟨h4, ⟨_, loseA_abs L keep torn, h5⟩, h6⟩
theorem cOn (d : DV T b h A w) : Calls Try.prog 22 #[.pointer (some ⟨b, 0, none⟩)] w fun e w' => e = .returned (.tuple #[]) ∧ DV T b { h with down := false } A w' ∧ Kept T w w' := by
  obtain ⟨L, rfl, h2⟩ := d
  exact (on_any h2).mono fun e w' ⟨h4, h5, h6, _⟩ => ⟨h4, ⟨L, rfl, h5⟩, h6⟩
theorem cArm (d : DV T b h A w) (m k : Int) (torn : Bool) : Calls Try.prog 26 #[.pointer (some ⟨b, 0, none⟩), .int .i64 m, .int .i64 k, .bool torn] w fun e w' => e = .returned (.tuple #[]) ∧ DV T b { h with left := max m 0, keep := k, torn := torn } A w' ∧ Kept T w w' := by
  obtain ⟨L, rfl, h2⟩ := d
  exact (arm_any h2 m k torn).mono fun e w' ⟨h4, h5, h6, _⟩ => ⟨h4, ⟨L, rfl, h5⟩, h6⟩
theorem cFree (d : DV T b h A w) (ho : HdOk h) (ht : totA A ≤ 1048576) : Calls Try.prog 17 #[.pointer (some ⟨b, 0, none⟩)] w fun e w' => e = .returned (.int .i64 (h.room - (totA A : Nat))) ∧ Below w.heap.size w w' := by
  obtain ⟨L, rfl, h2⟩ := d
  rw [totA_abs] at ht ⊢
  exact free_any h2 ho.room (by omega)
theorem cRead (d : DV T b h A w) (ht : totA A ≤ 1048576) (x : ByteArray) : Calls Try.prog 23 #[.pointer (some ⟨b, 0, none⟩), .string x] w (ReadA w h A x) := by
  obtain ⟨L, rfl, h2⟩ := d
  have hf := findA_abs h L x
  by_cases he : findE h L x = 0
  · exact (read_ok h2 (len_of ht) x he).mono fun e w' ⟨v', f, h4, h5, h6, h7⟩ => ⟨.inr ⟨hf.trans he, v', absF f, h4, by rw [lookA_abs, h6]; rfl, h7⟩, h5⟩
  · exact (read_err h2 x he).mono fun e w' ⟨h4, h5⟩ => by subst h5; exact ⟨.inl ⟨by rw [hf]; exact he, by rw [hf]; exact h4⟩, Below.refl _ _⟩
theorem cNames (d : DV T b h A w) (hn : A.length ≤ 1048576) : Calls Try.prog 20 #[.pointer (some ⟨b, 0, none⟩)] w (NamesA w A) := by
  obtain ⟨L, rfl, h2⟩ := d
  refine (names_any h2 (by simpa using hn)).mono fun e w' r => ?_
  obtain ⟨v, ss, h1, h2, h3⟩ := r.e
  refine ⟨⟨v, ss, h1, ?_, ?_⟩, r.b⟩
  · rw [List.map_map]; exact h2
  · rw [List.length_map]; exact h3
theorem cActs (d : DV T b h A w) : Calls Try.prog 15 #[.pointer (some ⟨b, 0, none⟩)] w fun e w' => e = .returned (.int .i64 h.acts) ∧ w = w' := by
  obtain ⟨L, rfl, h2⟩ := d
  exact acts_any h2
theorem cDown (d : DV T b h A w) : Calls Try.prog 16 #[.pointer (some ⟨b, 0, none⟩)] w fun e w' => e = .returned (.bool h.down) ∧ w = w' := by
  obtain ⟨L, rfl, h2⟩ := d
  exact down_any h2
theorem cNew (room : Int) (w : World) : Calls Try.prog 12 #[.int .i64 room] w fun e w' => e = .returned (.pointer (some ⟨w.heap.size + 1, 0, none⟩)) ∧ DV (fun k => w.heap.size ≤ k ∧ k < w'.heap.size) (w.heap.size + 1) (newH room) [] w' ∧ Below w.heap.size w w' :=
  (new_any room w).mono fun e w' ⟨h1, h2, h3, h4⟩ => ⟨h1, ⟨[], rfl, h2.mono (fun k hk => ⟨hk.1, by rw [h4]; exact hk.2⟩)⟩, h3⟩
/-! ### The document's -/
theorem rAppend (d : RV T b h A w) (hok : ROk h A) (x : ByteArray) (c : List UInt8) (hc : c.length ≤ 16777216) :
    Calls Try.prog 32 #[.pointer (some ⟨b, 0, none⟩), .string x, .string (mkB c)] w (RR T b w (stepR h A (apdR A x c) (if readyE h x ≠ 0 then readyE h x else if h.room - (totA A : Nat) < (c.length : Nat) then 6 else 0) 0)) :=
  (appendR_any d.rd hok x c hc).mono fun e w' ⟨h1, h2⟩ => ⟨h1, h2.rv, h2.k⟩
theorem rSync (d : RV T b h A w) (hok : ROk h A) (x : ByteArray) : Calls Try.prog 33 #[.pointer (some ⟨b, 0, none⟩), .string x] w (RR T b w (stepR h A (synR A x) (findA h A x) 2)) :=
  (syncR_any d.rd hok x).mono fun e w' ⟨h1, h2⟩ => ⟨h1, h2.rv, h2.k⟩
theorem rCut (d : RV T b h A w) (hok : ROk h A) (x : ByteArray) (n : Int) (hn : -9223372036854775808 ≤ n ∧ n ≤ 9223372036854775807) : Calls Try.prog 34 #[.pointer (some ⟨b, 0, none⟩), .string x, .int .i64 n] w (RR T b w (stepR h A (cutR A x n.toNat) (if findA h A x ≠ 0 then findA h A x else if n < 0 then 1 else 0) 1)) :=
  (cutR_any d.rd hok x n hn).mono fun e w' ⟨h1, h2⟩ => ⟨h1, h2.rv, h2.k⟩
theorem rRename (d : RV T b h A w) (hT : ∀ k, T k → k < w.heap.size) (hok : ROk h A) (x z : ByteArray) : Calls Try.prog 35 #[.pointer (some ⟨b, 0, none⟩), .string x, .string z] w (RR T b w (stepR h A (renR A x z) (if findA h A x ≠ 0 then findA h A x else if goodN z = true then 0 else 1) 1)) :=
  (renameR_any d.rd hT hok x z).mono fun e w' ⟨h1, h2⟩ => ⟨h1, h2.rv, h2.k⟩
theorem rRemove (d : RV T b h A w) (hok : ROk h A) (x : ByteArray) : Calls Try.prog 36 #[.pointer (some ⟨b, 0, none⟩), .string x] w (RR T b w (stepR h A (drpA A x) (findA h A x) 1)) :=
  (removeR_any d.rd hok x).mono fun e w' ⟨h1, h2⟩ => ⟨h1, h2.rv, h2.k⟩
theorem rLose (d : RV T b h A w) (hok : ROk h A) (k : Int) (t : Bool) (hk : -9223372036854775808 ≤ k ∧ k ≤ 9223372036854775807) : Calls Try.prog 37 #[.pointer (some ⟨b, 0, none⟩), .int .i64 k, .bool t] w fun e w' => e = .returned (.tuple #[]) ∧ RV (Gr T w w') b (if h.down = true then h else offR h) (if h.down = true then A else A.map (loseA k t)) w' ∧ Kept T w w' := by
  by_cases hd : h.down = true
  · rw [if_pos hd, if_pos hd]
    have D := Lib.hid d
    obtain ⟨v, hb, _⟩ := d.r
    have c2 : w.cell? ⟨b, 2, none⟩ = some (.bool h.down) := block_cell hb 2
    rw [hd] at c2
    clear hb d hd
    go_enter Try.func37, Try.ntmps37
    go_wp2_with fail
    exact bodyPost_ret (v := .tuple #[]) (by simp [results, Try.results37]) rfl ⟨rfl, D.out.mono (fun k hk => .inl hk), Kept.refl _ _⟩
  · rw [if_neg hd, if_neg hd]
    exact (loseR_any d.rd (by simpa using hd) hok.n' hok.t hok.s k t hk).mono fun e w' ⟨h1, h2⟩ => ⟨h1, h2.rv, h2.k⟩
theorem rArm (d : RV T b h A w) (n k : Int) (t : Bool) : Calls Try.prog 38 #[.pointer (some ⟨b, 0, none⟩), .int .i64 n, .int .i64 k, .bool t] w fun e w' => e = .returned (.tuple #[]) ∧ RV (Gr T w w') b { h with left := max n 0, keep := k, torn := t } A w' ∧ Kept T w w' :=
  (armR_any d.rd n k t).mono fun e w' ⟨h1, h2⟩ => ⟨h1, h2.rv, h2.k⟩
end
/-! ### What agrees -/
structure Rel (i : Nat) (h h' : Hd) (A A' : List Ab) : Prop where
  room : h.room = h'.room ∧ 0 ≤ h.room ∧ h.room ≤ 1048576
  acts : h.acts = h'.acts ∧ 0 ≤ h.acts ∧ h.acts ≤ (i : Nat)
  down : h.down = h'.down
  left : h.left = h'.left ∧ 0 ≤ h.left ∧ h.left ≤ 9223372036854775807
  kt : h.left ≠ 0 → h.keep = h'.keep ∧ h.torn = h'.torn
  kr : (-9223372036854775808 ≤ h.keep ∧ h.keep ≤ 9223372036854775807) ∧ -9223372036854775808 ≤ h'.keep ∧ h'.keep ≤ 9223372036854775807
  agr : Agr A A'
  tot : (totA A : Nat) ≤ h.room
  len : A.length ≤ i
  safe : ∀ y ∈ A, y.2.2 ≤ y.2.1.length
  gd : ∀ y ∈ A, goodN y.1 = true
theorem Rel.ok {i : Nat} {h h' : Hd} {A A' : List Ab} (r : Rel i h h' A A') (hi : i ≤ 1000) : HdOk h ∧ totA A ≤ 1048576 ∧ A.length ≤ 1048576 ∧ ROk h' A' := by
  have h1 := r.room
  have h2 := r.acts
  have h3 := r.left
  have h4 := r.tot
  have h5 := r.len
  have h6 := r.agr.tot
  have h7 := r.agr.perm.length_eq
  exact ⟨⟨h1.2, h3.2, by omega⟩, by omega, by omega, ⟨⟨by omega, by omega, by omega⟩, r.kr.2, by omega, by omega, fun y hy => r.safe y (r.agr.perm.mem_iff.2 hy)⟩⟩
theorem Rel.next {i : Nat} {h h' : Hd} {A A' : List Ab} (r : Rel i h h' A A') : Rel (i + 1) h h' A A' := ⟨r.room, ⟨r.acts.1, r.acts.2.1, by have := r.acts.2.2; omega⟩, r.down, r.left, r.kt, r.kr, r.agr, r.tot, Nat.le_succ_of_le r.len, r.safe, r.gd⟩
theorem Rel.ready {i : Nat} {h h' : Hd} {A A' : List Ab} (r : Rel i h h' A A') (x : ByteArray) : readyE h' x = readyE h x := by
  unfold readyE
  rw [r.down]
theorem Rel.find {i : Nat} {h h' : Hd} {A A' : List Ab} (r : Rel i h h' A A') (x : ByteArray) : findA h' A' x = findA h A x := by
  unfold findA
  rw [r.ready, r.agr.lk]
theorem safe_lose {A : List Ab} (k : Int) (t : Bool) : ∀ y ∈ A.map (loseA k t), y.2.2 ≤ y.2.1.length := fun y hy => by
  obtain ⟨z, _, rfl⟩ := List.mem_map.1 hy
  exact Nat.le_refl _
theorem good_lose {A : List Ab} (k : Int) (t : Bool) (h : ∀ y ∈ A, goodN y.1 = true) : ∀ y ∈ A.map (loseA k t), goodN y.1 = true := fun y hy => by
  obtain ⟨z, hz, rfl⟩ := List.mem_map.1 hy
  exact h z hz
theorem good_upd {A : List Ab} {y : Ab} (h : ∀ y ∈ A, goodN y.1 = true) (hy : goodN y.1 = true) : ∀ z ∈ updA A y, goodN z.1 = true := fun z hz => by
  rcases updA_mem hz with rfl | ⟨hz, _⟩
  · exact hy
  · exact h z hz
/-- An act leads to what agrees. -/
theorem Rel.step {i : Nat} {h h' : Hd} {A A' A1 A1' : List Ab} (r : Rel i h h' A A') {pre stays : Int} (hd : pre = 0 → h.down = false) (ha : pre = 0 → Agr A1 A1') (ht : pre = 0 → (totA A1 : Nat) ≤ h.room) (hl : pre = 0 → A1.length ≤ i + 1) (hs : pre = 0 → ∀ y ∈ A1, y.2.2 ≤ y.2.1.length) (hg : pre = 0 → ∀ y ∈ A1, goodN y.1 = true) :
    (stepA h A A1 pre stays).1 = (stepR h' A' A1' pre stays).1 ∧ Rel (i + 1) (stepA h A A1 pre stays).2.1 (stepR h' A' A1' pre stays).2.1 (stepA h A A1 pre stays).2.2 (stepR h' A' A1' pre stays).2.2 := by
  by_cases hp : pre = 0
  · have hdn := hd hp
    by_cases hl1 : h.left = 1
    · have hl2 : h'.left = 1 := by rw [← r.left.1]; exact hl1
      obtain ⟨k1, k2⟩ := r.kt (by omega)
      rw [step_off hp hl1, stepR_off hp hl2, ← k1, ← k2]
      refine ⟨rfl, r.room, ⟨by show h.acts + 1 = h'.acts + 1; rw [r.acts.1], by show 0 ≤ h.acts + 1; have := r.acts; omega, by show h.acts + 1 ≤ ((i + 1 : Nat) : Int); have := r.acts; omega⟩, rfl, ⟨rfl, by show (0 : Int) ≤ 0; omega, by show (0 : Int) ≤ 9223372036854775807; omega⟩, fun h0 => absurd rfl h0, ⟨by show (-9223372036854775808 : Int) ≤ 0 ∧ (0 : Int) ≤ 9223372036854775807; omega, r.kr.2⟩, ?_, ?_, ?_, safe_lose _ _, ?_⟩
      · by_cases hb : doesB stays h.keep = true
        · simp only [hb, if_true]; exact (ha hp).lose _ _
        · simp only [hb, if_false]; exact r.agr.lose _ _
      · by_cases hb : doesB stays h.keep = true
        · simp only [hb, if_true]
          have := @tot_lose A1 h.keep h.torn
          have := ht hp
          show ((totA (A1.map (loseA h.keep h.torn)) : Nat) : Int) ≤ h.room
          omega
        · simp only [hb, if_false]
          have := @tot_lose A h.keep h.torn
          have := r.tot
          show ((totA (A.map (loseA h.keep h.torn)) : Nat) : Int) ≤ h.room
          omega
      · by_cases hb : doesB stays h.keep = true
        · simp only [hb, if_true, List.length_map]; exact hl hp
        · simp only [hb, if_false, List.length_map]; have := r.len; simp; omega
      · by_cases hb : doesB stays h.keep = true
        · simp only [hb, if_true]; exact good_lose _ _ (hg hp)
        · simp only [hb, if_false]; exact good_lose _ _ r.gd
    · have hl2 : h'.left ≠ 1 := by rw [← r.left.1]; exact hl1
      rw [step_ok hp hl1, stepR_ok hp hl2]
      have hm : max (h.left - 1) 0 = max (h'.left - 1) 0 := by rw [r.left.1]
      refine ⟨rfl, r.room, ⟨by show h.acts + 1 = h'.acts + 1; rw [r.acts.1], by show 0 ≤ h.acts + 1; have := r.acts; omega, by show h.acts + 1 ≤ ((i + 1 : Nat) : Int); have := r.acts; omega⟩, by show false = h'.down; rw [← r.down, hdn], ⟨hm, by show 0 ≤ max (h.left - 1) 0; omega, by show max (h.left - 1) 0 ≤ 9223372036854775807; have := r.left; omega⟩, fun h0 => r.kt (fun e => h0 (by show max (h.left - 1) 0 = 0; omega)), r.kr, ha hp, ht hp, hl hp, hs hp, hg hp⟩
  · rw [step_pre rfl hp, stepR_pre hp]
    exact ⟨rfl, r.next⟩
theorem ready_down {h : Hd} {x : ByteArray} (hr : readyE h x = 0) : h.down = false := (readyE_ok hr).1
theorem find_down {h : Hd} {A : List Ab} {x : ByteArray} (hf : findA h A x = 0) : h.down = false := (findA_ok hf).1
theorem safe_upd {A : List Ab} {y : Ab} (h : ∀ y ∈ A, y.2.2 ≤ y.2.1.length) (hy : y.2.2 ≤ y.2.1.length) : ∀ z ∈ updA A y, z.2.2 ≤ z.2.1.length := fun z hz => by
  rcases updA_mem hz with rfl | ⟨hz, _⟩
  · exact hy
  · exact h z hz
section
variable {i : Nat} {h h' : Hd} {A A' : List Ab}
theorem Rel.append (r : Rel i h h' A A') (x : ByteArray) (c : List UInt8) :
    let pre := (if readyE h x ≠ 0 then readyE h x else if h.room - (totA A : Nat) < (c.length : Nat) then 6 else 0)
    (stepA h A (apdA A x c) pre 0).1 = (stepR h' A' (apdR A' x c) pre 0).1 ∧ Rel (i + 1) (stepA h A (apdA A x c) pre 0).2.1 (stepR h' A' (apdR A' x c) pre 0).2.1 (stepA h A (apdA A x c) pre 0).2.2 (stepR h' A' (apdR A' x c) pre 0).2.2 := by
  intro pre
  have hp : pre = 0 → readyE h x = 0 ∧ (c.length : Int) ≤ h.room - (totA A : Nat) := fun hp => by
    by_cases h1 : readyE h x = 0
    · refine ⟨h1, ?_⟩
      have : pre = if h.room - (totA A : Nat) < (c.length : Nat) then 6 else 0 := by show (if readyE h x ≠ 0 then readyE h x else _) = _; rw [if_neg (by simp [h1])]
      rw [this] at hp
      split at hp
      · cases hp
      · omega
    · have : pre = readyE h x := by show (if readyE h x ≠ 0 then readyE h x else _) = _; rw [if_pos h1]
      exact absurd (this ▸ hp) h1
  refine r.step (fun e => ready_down (hp e).1) (fun _ => r.agr.apd x c) (fun e => ?_) (fun _ => ?_) (fun _ => ?_) (fun e => ?_)
  · rw [tot_apd r.agr.nd]; have := (hp e).2; omega
  · unfold apdA; exact Nat.le_trans len_upd (by have := r.len; omega)
  · unfold apdA
    refine safe_upd r.safe ?_
    cases hl : lookA A x with
    | none => exact Nat.zero_le _
    | some y =>
      have := r.safe y (lookA_some hl).1
      simp only [List.length_append]
      omega
  · unfold apdA
    refine good_upd r.gd ?_
    cases lookA A x <;> exact (readyE_ok (hp e).1).2
theorem Rel.sync (r : Rel i h h' A A') (x : ByteArray) :
    (stepA h A (synA A x) (findA h A x) 2).1 = (stepR h' A' (synR A' x) (findA h A x) 2).1 ∧ Rel (i + 1) (stepA h A (synA A x) (findA h A x) 2).2.1 (stepR h' A' (synR A' x) (findA h A x) 2).2.1 (stepA h A (synA A x) (findA h A x) 2).2.2 (stepR h' A' (synR A' x) (findA h A x) 2).2.2 := by
  refine r.step find_down (fun _ => r.agr.syn x) (fun e => ?_) (fun _ => ?_) (fun _ => ?_) (fun e => ?_)
  · rw [tot_syn r.agr.nd]; exact r.tot
  · unfold synA
    have h1 := r.len
    split
    · exact Nat.le_trans len_upd (by omega)
    · omega
  · unfold synA
    split
    · exact safe_upd r.safe (Nat.le_refl _)
    · exact r.safe
  · unfold synA
    split
    · exact good_upd r.gd (findA_ok e).2.1
    · exact r.gd
theorem Rel.cut (r : Rel i h h' A A') (x : ByteArray) (n : Int) :
    let pre := (if findA h A x ≠ 0 then findA h A x else if n < 0 then 1 else 0)
    (stepA h A (cutA A x n.toNat) pre 1).1 = (stepR h' A' (cutR A' x n.toNat) pre 1).1 ∧ Rel (i + 1) (stepA h A (cutA A x n.toNat) pre 1).2.1 (stepR h' A' (cutR A' x n.toNat) pre 1).2.1 (stepA h A (cutA A x n.toNat) pre 1).2.2 (stepR h' A' (cutR A' x n.toNat) pre 1).2.2 := by
  intro pre
  have hp : pre = 0 → findA h A x = 0 := fun hp => by
    by_cases h1 : findA h A x = 0
    · exact h1
    · have : pre = findA h A x := by show (if findA h A x ≠ 0 then findA h A x else _) = _; rw [if_pos h1]
      exact absurd (this ▸ hp) h1
  refine r.step (fun e => find_down (hp e)) (fun _ => r.agr.cut x n.toNat) (fun e => ?_) (fun _ => ?_) (fun _ => ?_) (fun e => ?_)
  · have := @tot_cut A x n.toNat r.agr.nd; have := r.tot; omega
  · unfold cutA
    have h1 := r.len
    split
    · exact Nat.le_trans len_upd (by omega)
    · omega
  · unfold cutA
    split
    · exact safe_upd r.safe (by simp only [List.length_take]; omega)
    · exact r.safe
  · unfold cutA
    split
    · exact good_upd r.gd (findA_ok (hp e)).2.1
    · exact r.gd
theorem Rel.remove (r : Rel i h h' A A') (x : ByteArray) :
    (stepA h A (drpA A x) (findA h A x) 1).1 = (stepR h' A' (drpA A' x) (findA h A x) 1).1 ∧ Rel (i + 1) (stepA h A (drpA A x) (findA h A x) 1).2.1 (stepR h' A' (drpA A' x) (findA h A x) 1).2.1 (stepA h A (drpA A x) (findA h A x) 1).2.2 (stepR h' A' (drpA A' x) (findA h A x) 1).2.2 := by
  refine r.step find_down (fun _ => r.agr.drp x) (fun e => ?_) (fun _ => ?_) (fun _ y hy => r.safe y (drpA_mem.1 hy).1) (fun _ y hy => r.gd y (drpA_mem.1 hy).1)
  · have := @tot_drp A x; have := r.tot; omega
  · have := drpA_len A x; have := r.len; omega
theorem Rel.rename (r : Rel i h h' A A') (x z : ByteArray) :
    let pre := (if findA h A x ≠ 0 then findA h A x else if goodN z = true then 0 else 1)
    (stepA h A (renA A x z) pre 1).1 = (stepR h' A' (renR A' x z) pre 1).1 ∧ Rel (i + 1) (stepA h A (renA A x z) pre 1).2.1 (stepR h' A' (renR A' x z) pre 1).2.1 (stepA h A (renA A x z) pre 1).2.2 (stepR h' A' (renR A' x z) pre 1).2.2 := by
  intro pre
  have hp : pre = 0 → findA h A x = 0 := fun hp => by
    by_cases h1 : findA h A x = 0
    · exact h1
    · have : pre = findA h A x := by show (if findA h A x ≠ 0 then findA h A x else _) = _; rw [if_pos h1]
      exact absurd (this ▸ hp) h1
  refine r.step (fun e => find_down (hp e)) (fun _ => r.agr.ren x z) (fun e => ?_) (fun _ => ?_) (fun _ => ?_) (fun e => ?_)
  · have := @tot_ren A x z r.agr.nd; have := r.tot; omega
  · unfold renA
    have h1 := r.len
    split
    · exact Nat.le_trans len_upd (by have := drpA_len A x; omega)
    · omega
  · unfold renA
    split
    · rename_i y hy
      exact safe_upd (fun q hq => r.safe q (drpA_mem.1 hq).1) (r.safe y (lookA_some hy).1)
    · exact r.safe
  · have hz : goodN z = true := by
      have h1 := hp e
      have e2 : pre = if goodN z = true then 0 else 1 := by show (if findA h A x ≠ 0 then findA h A x else _) = _; rw [if_neg (by simp [h1])]
      rw [e2] at e
      split at e
      · assumption
      · cases e
    unfold renA
    split
    · exact good_upd (fun q hq => r.gd q (drpA_mem.1 hq).1) hz
    · exact r.gd
theorem Rel.off (r : Rel i h h' A A') (k : Int) (t : Bool) : Rel (i + 1) (if h.down = true then h else offH h) (if h'.down = true then h' else offR h') (if h.down = true then A else A.map (loseA k t)) (if h'.down = true then A' else A'.map (loseA k t)) := by
  rw [← r.down]
  by_cases hd : h.down = true
  · rw [if_pos hd, if_pos hd, if_pos hd, if_pos hd]; exact r.next
  · rw [if_neg hd, if_neg hd, if_neg hd, if_neg hd]
    have n := r.next
    refine ⟨n.room, n.acts, rfl, ⟨rfl, by show (0 : Int) ≤ 0; omega, by show (0 : Int) ≤ 9223372036854775807; omega⟩, fun h0 => absurd rfl h0, ⟨by show (-9223372036854775808 : Int) ≤ 0 ∧ (0 : Int) ≤ 9223372036854775807; omega, r.kr.2⟩, r.agr.lose _ _, ?_, by rw [List.length_map]; exact n.len, safe_lose _ _, good_lose _ _ r.gd⟩
    have := @tot_lose A k t
    have := r.tot
    show ((totA (A.map (loseA k t)) : Nat) : Int) ≤ h.room
    omega
theorem Rel.on (r : Rel i h h' A A') : Rel (i + 1) { h with down := false } { h' with down := false } A A' := by
  have n := r.next
  exact ⟨n.room, n.acts, rfl, n.left, n.kt, n.kr, n.agr, n.tot, n.len, n.safe, n.gd⟩
theorem Rel.arm (r : Rel i h h' A A') (m k : Int) (t : Bool) (hm : -9223372036854775808 ≤ m ∧ m ≤ 9223372036854775807) (hk : -9223372036854775808 ≤ k ∧ k ≤ 9223372036854775807) : Rel (i + 1) { h with left := max m 0, keep := k, torn := t } { h' with left := max m 0, keep := k, torn := t } A A' := by
  have n := r.next
  exact ⟨n.room, n.acts, n.down, ⟨rfl, by show 0 ≤ max m 0; omega, by show max m 0 ≤ 9223372036854775807; omega⟩, fun _ => ⟨rfl, rfl⟩, ⟨hk, hk⟩, n.agr, n.tot, n.len, n.safe, n.gd⟩
end
end Go.Proofs.Ytfmcemedaehcoaa
