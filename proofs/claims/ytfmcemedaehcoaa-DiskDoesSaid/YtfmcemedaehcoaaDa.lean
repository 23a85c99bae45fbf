/- The theory of a device in memory: its files, the blocks that they lie in, and what keeps them. -/
import Derived.Test.YtfmcemedaehcoaaKa
namespace Go.Proofs.Ytfmcemedaehcoaa
set_option linter.unusedVariables false
set_option linter.unusedSimpArgs false
open Go.ChangeShapes Go.WideShapes Go.ChangeAt Go.RowKit
open Go.WideMaps (keyOf_string_mk string_of_keyOf)

/-- How a pointer among a map's elements reads. -/
def ptrV : Option Nat → Value
  | some B => .pointer (some ⟨B, 0, none⟩)
  | none => .pointer none
def ptrD : Option Nat → DataW Unit
  | some B => .lit (.int .i64 (B : Nat))
  | none => .lit (.int .i64 (-1))
def ptrR : Value → Option (DataW Unit × List MemPlace)
  | .pointer (some ⟨B, 0, none⟩) => some (ptrD (some B), [])
  | .pointer none => some (ptrD none, [])
  | _ => none
theorem ptrR_v (c : Option Nat) : ptrR (ptrV c) = some (ptrD c, []) := by cases c <;> rfl
theorem ptrR_inv {v : Value} {y : DataW Unit × List MemPlace} (h : ptrR v = some y) : ∃ c, v = ptrV c ∧ y = (ptrD c, []) := by
  unfold ptrR at h
  split at h
  · injection h with h; exact ⟨some _, rfl, h.symm⟩
  · injection h with h; exact ⟨none, rfl, h.symm⟩
  · cases h
theorem ptrD_inj {c c' : Option Nat} (h : ptrD c = ptrD c') : c = c' := by
  cases c <;> cases c' <;> simp only [ptrD, DataW.lit.injEq, Lit.int.injEq, true_and] at h
  · rfl
  · omega
  · omega
  · rw [Int.ofNat.inj h]
theorem key9 : Go.Maps.Keyed Try.prog 9 := Go.Maps.string_keyed Try.underlying9
theorem keyS {x : ByteArray} (hx : x.size ≤ maxLen) : keyOf Try.prog 9 (.string x) = some (.string x.data.toList) := keyOf_string_mk Try.underlying9 hx
theorem keyS_inv {key : Value} {kl : Lit} (h : keyOf Try.prog 9 key = some kl) : ∃ x : ByteArray, key = .string x ∧ kl = .string x.data.toList ∧ x.size ≤ maxLen := string_of_keyOf Try.underlying9 h
theorem zero64 (w : World) : (zeroValue 64).run Try.prog w = .ok (.pointer none) w := by
  have e : Try.t64.zero = some (.pointer none) := by kernel_rfl
  simp [zeroValue, go_sem, e]

/-- A file: its name, the block it lies in, its bytes' slice, its bytes, how many are safe. -/
structure Fl where
  nm : ByteArray
  B : Nat
  v : Value
  d : List UInt8
  s : Nat
def Fl.bl (f : Fl) : List Nat := f.B :: f.v.ownBlock.toList
theorem Fl.mem_bl {f : Fl} {k : Nat} : k ∈ f.bl ↔ k = f.B ∨ f.v.ownBlock = some k := by
  unfold Fl.bl
  cases f.v.ownBlock <;> simp [eq_comm]
structure Fok (w : World) (f : Fl) : Prop where
  box : w.heap[f.B]? = some (.cells #[f.v, .int .i64 (f.s : Nat)] 66 (0, 0))
  row : w.ownsRow 0 5 1 f.v f.d.length (LF bV f.d)
  le : f.s ≤ f.d.length
theorem own_lt0 {w : World} {v : Value} {n : Nat} {xs : List Value} (h : w.ownsRow 0 5 1 v n xs) {g : Nat} (hg : v.ownBlock = some g) : g < w.heap.size := (h.lt g hg).2
theorem Fok.lt {w : World} {f : Fl} (h : Fok w f) {k : Nat} (hk : k ∈ f.bl) : k < w.heap.size := by
  rcases Fl.mem_bl.1 hk with rfl | e
  · exact lt_of_block h.box
  · exact own_lt0 h.row e
theorem Fok.of_blocks {w w' : World} {f : Fl} (h : Fok w f) (e : ∀ k ∈ f.bl, w'.heap[k]? = w.heap[k]?) : Fok w' f := by
  refine ⟨(e f.B (Fl.mem_bl.2 (.inl rfl))).trans h.box, ⟨h.row.1, ?_⟩, h.le⟩
  rcases h.row.2 with h1 | ⟨g, cap, cur, hv, hb, hh, rest⟩
  · exact .inl h1
  · exact .inr ⟨g, cap, cur, hv, hb, (e g (Fl.mem_bl.2 (.inr (by rw [hv]; rfl)))).trans hh, rest⟩
def look (L : List Fl) (x : ByteArray) : Option Fl := L.find? (fun f => decide (f.nm = x))
theorem look_some {L : List Fl} {x : ByteArray} {f : Fl} (h : look L x = some f) : f ∈ L ∧ f.nm = x := by
  unfold look at h
  exact ⟨List.mem_of_find?_eq_some h, by simpa using List.find?_some h⟩
theorem look_none {L : List Fl} {x : ByteArray} (h : look L x = none) : ∀ f ∈ L, f.nm ≠ x := by
  unfold look at h
  intro f hf e
  have := List.find?_eq_none.1 h f hf
  simp [e] at this
theorem look_mem {L : List Fl} (hn : (L.map Fl.nm).Nodup) {f : Fl} (hf : f ∈ L) : look L f.nm = some f := by
  cases hl : look L f.nm with
  | none => exact absurd rfl (look_none hl f hf)
  | some g =>
    obtain ⟨hg, he⟩ := look_some hl
    have : g = f := by
      clear hl
      induction L with
      | nil => cases hf
      | cons a L ih =>
        rw [List.map_cons, List.nodup_cons] at hn
        rcases List.mem_cons.1 hf with rfl | hf2 <;> rcases List.mem_cons.1 hg with rfl | hg2
        · rfl
        · exact absurd (he ▸ List.mem_map_of_mem hg2) hn.1
        · exact absurd (he ▸ List.mem_map_of_mem hf2) hn.1
        · exact ih hn.2 hf2 hg2
    rw [this]
/-- A file put among them, in the place of the one of its name. -/
def upd (L : List Fl) (f' : Fl) : List Fl := if (look L f'.nm).isSome = true then L.map (fun g => if g.nm = f'.nm then f' else g) else L ++ [f']
def drp (L : List Fl) (x : ByteArray) : List Fl := L.filter (fun g => decide (g.nm ≠ x))
theorem upd_some {L : List Fl} {f f' : Fl} (h : look L f'.nm = some f) : upd L f' = L.map (fun g => if g.nm = f'.nm then f' else g) := by unfold upd; rw [h]; rfl
theorem upd_none {L : List Fl} {f' : Fl} (h : look L f'.nm = none) : upd L f' = L ++ [f'] := by unfold upd; rw [h]; rfl
theorem upd_mem {L : List Fl} {f' g : Fl} (h : g ∈ upd L f') : g = f' ∨ (g ∈ L ∧ g.nm ≠ f'.nm) := by
  cases hl : look L f'.nm with
  | none =>
    rw [upd_none hl] at h
    rcases List.mem_append.1 h with h | h
    · exact .inr ⟨h, look_none hl g h⟩
    · exact .inl (List.mem_singleton.1 h)
  | some f =>
    rw [upd_some hl] at h
    obtain ⟨g0, hg0, e⟩ := List.mem_map.1 h
    by_cases hn : g0.nm = f'.nm
    · rw [if_pos hn] at e; exact .inl e.symm
    · rw [if_neg hn] at e; subst e; exact .inr ⟨hg0, hn⟩
theorem upd_names {L : List Fl} {f' : Fl} (hn : (L.map Fl.nm).Nodup) : ((upd L f').map Fl.nm).Nodup := by
  cases hl : look L f'.nm with
  | none =>
    rw [upd_none hl, List.map_append, List.nodup_append]
    refine ⟨hn, by simp, fun a ha b hb e => ?_⟩
    simp only [List.map_cons, List.map_nil, List.mem_singleton] at hb
    obtain ⟨g, hg, rfl⟩ := List.mem_map.1 ha
    exact look_none hl g hg (e.trans hb)
  | some f =>
    rw [upd_some hl, List.map_map]
    have : (Fl.nm ∘ fun g => if g.nm = f'.nm then f' else g) = Fl.nm := by
      funext g
      simp only [Function.comp]
      split
      · rename_i h; exact h.symm
      · rfl
    rw [this]; exact hn
theorem look_upd {L : List Fl} {f' : Fl} (x : ByteArray) : look (upd L f') x = if f'.nm = x then some f' else look L x := by
  cases hl : look L f'.nm with
  | none =>
    rw [upd_none hl]
    unfold look at hl ⊢
    rw [List.find?_append]
    by_cases hx : f'.nm = x
    · subst hx
      rw [hl, if_pos rfl]
      simp
    · rw [if_neg hx]
      cases L.find? (fun f => decide (f.nm = x)) <;> simp [hx]
  | some f =>
    rw [upd_some hl]
    have key : ∀ M : List Fl, (∀ g ∈ M, True) → look (M.map (fun g => if g.nm = f'.nm then f' else g)) x = if f'.nm = x then (look M x).map (fun _ => f') else look M x := by
      intro M _
      unfold look
      induction M with
      | nil => simp
      | cons a M ih =>
        rw [List.map_cons, List.find?_cons, List.find?_cons]
        have ih := ih (fun _ _ => trivial)
        by_cases ha : a.nm = f'.nm
        · rw [if_pos ha]
          by_cases hx : f'.nm = x
          · rw [if_pos hx]
            simp [hx, ha]
          · rw [if_neg hx] at ih ⊢
            have h1 : decide (f'.nm = x) = false := decide_eq_false hx
            have h2 : decide (a.nm = x) = false := decide_eq_false (by rw [ha]; exact hx)
            rw [h1, h2]
            exact ih
        · rw [if_neg ha]
          by_cases hax : a.nm = x
          · have hx : ¬ f'.nm = x := fun e => ha (hax.trans e.symm)
            rw [if_neg hx]
            simp [hax]
          · have h2 : decide (a.nm = x) = false := decide_eq_false hax
            rw [h2]
            exact ih
    rw [key L (fun _ _ => trivial)]
    by_cases hx : f'.nm = x
    · rw [if_pos hx, if_pos hx, ← hx, hl]; rfl
    · rw [if_neg hx, if_neg hx]
theorem upd_len {L : List Fl} {f' : Fl} : (upd L f').length ≤ L.length + 1 := by
  unfold upd; split <;> simp
theorem drp_mem {L : List Fl} {x : ByteArray} {g : Fl} : g ∈ drp L x ↔ g ∈ L ∧ g.nm ≠ x := by
  unfold drp; rw [List.mem_filter, decide_eq_true_eq]
theorem drp_names {L : List Fl} {x : ByteArray} (hn : (L.map Fl.nm).Nodup) : ((drp L x).map Fl.nm).Nodup := hn.sublist (List.filter_sublist.map _)
theorem look_drp {L : List Fl} {x : ByteArray} (y : ByteArray) : look (drp L x) y = if y = x then none else look L y := by
  unfold look drp
  induction L with
  | nil => simp
  | cons a L ih =>
    rw [List.filter_cons]
    by_cases ha : a.nm = x
    · rw [if_neg (by simp [ha]), ih, List.find?_cons]
      by_cases hy : y = x
      · rw [if_pos hy, if_pos hy]
      · rw [if_neg hy, if_neg hy, decide_eq_false (fun e => hy (e.symm.trans ha))]
    · rw [if_pos (by simp [ha]), List.find?_cons, List.find?_cons, ih]
      by_cases hay : a.nm = y
      · have hyx : ¬ y = x := fun e => ha (hay.trans e)
        simp [hay, hyx]
      · rw [decide_eq_false hay]

/-- What stands in the device's own block. -/
structure Hd where
  room : Int
  acts : Int
  down : Bool
  left : Int
  keep : Int
  torn : Bool
def hdV (h : Hd) (mb : Nat) : Array Value := #[.int .i64 h.room, .map (some mb), .int .i64 h.acts, .bool h.down, .int .i64 h.left, .int .i64 h.keep, .bool h.torn]
/-- The map of the files. -/
structure MapOk (mb : Nat) (L : List Fl) (w : World) : Prop where
  own : ∃ D : DataW Unit, w.ownsMap Try.prog 9 ptrR mb L.length D ∧ Maps.size D = L.length ∧ ∀ x : ByteArray, x.size ≤ maxLen → ∀ z, D.atKey (.string x.data.toList) z = match look L x with | some f => ptrD (some f.B) | none => z
theorem ownsMap_of {w w' : World} {R : Value → Option (DataW Unit × List MemPlace)} {mb n : Nat} {D : DataW Unit} (h : w.ownsMap Try.prog 9 R mb n D) (e : w'.heap[mb]? = w.heap[mb]?) : w'.ownsMap Try.prog 9 R mb n D := by
  obtain ⟨es, clock, hb, rest⟩ := h
  exact ⟨es, clock, e.trans hb, rest⟩
theorem MapOk.of_block {w w' : World} {mb : Nat} {L : List Fl} (h : MapOk mb L w) (e : w'.heap[mb]? = w.heap[mb]?) : MapOk mb L w' := by
  obtain ⟨D, h1, h2, h3⟩ := h.own
  exact ⟨D, ownsMap_of h1 e, h2, h3⟩
theorem MapOk.lt {w : World} {mb : Nat} {L : List Fl} (h : MapOk mb L w) : mb < w.heap.size := by
  obtain ⟨D, h1, _⟩ := h.own
  exact h1.lt
set_option maxRecDepth 100000 in
/-- What is in the map at a name. -/
theorem MapOk.lkp {w : World} {mb : Nat} {L : List Fl} (h : MapOk mb L w) {x : ByteArray} (hx : x.size ≤ maxLen) : (Instr.lookup 59 (.map (some mb)) (.string x) false).run Try.prog w = .ok (ptrV ((look L x).map Fl.B)) w := by
  obtain ⟨D, h1, _, h2⟩ := h.own
  obtain ⟨v, ps, hrun, hv⟩ := h1.lookup key9 Try.underlying59 (zero64 w) (ptrR_v none) (keyS hx)
  obtain ⟨c, rfl, hc⟩ := ptrR_inv hv
  injection hc with hc _
  rw [h2 x hx] at hc
  have hcc : c = (look L x).map Fl.B := by
    apply ptrD_inj
    rw [← hc]
    cases look L x <;> rfl
  rw [hrun, hcc]

/-- A device: its block, its map, its files, each in blocks of its own, all of them in S. -/
structure Dev (S : Nat → Prop) (b : Nat) (h : Hd) (L : List Fl) (w : World) : Prop where
  f : ∃ mb, w.heap[b]? = some (.cells (hdV h mb) 63 (0, 0)) ∧ MapOk mb L w ∧ b ≠ mb ∧ (∀ f ∈ L, b ∉ f.bl ∧ mb ∉ f.bl ∧ f.v.ownBlock ≠ some f.B) ∧ S b ∧ S mb
  fo : ∀ f ∈ L, Fok w f
  nm : (L.map Fl.nm).Nodup
  n32 : ∀ f ∈ L, f.nm.size ≤ 32
  ff : ∀ f ∈ L, ∀ g ∈ L, f.nm ≠ g.nm → ∀ k ∈ f.bl, k ∉ g.bl
  ss : ∀ f ∈ L, ∀ k ∈ f.bl, S k
/-- All blocks that were there, but those in S, are as they were. -/
structure Kept (S : Nat → Prop) (w w' : World) : Prop where
  os : w'.os = w.os
  tape : w'.tape = w.tape
  output : w'.output = w.output
  size : w.heap.size ≤ w'.heap.size
  block : ∀ k, k < w.heap.size → ¬ S k → w'.heap[k]? = w.heap[k]?
/-- S, and all that was made since. -/
def Gr (S : Nat → Prop) (w w' : World) (k : Nat) : Prop := S k ∨ (w.heap.size ≤ k ∧ k < w'.heap.size)
theorem Kept.refl (S : Nat → Prop) (w : World) : Kept S w w := ⟨rfl, rfl, rfl, Nat.le_refl _, fun _ _ _ => rfl⟩
theorem Kept.trans {S : Nat → Prop} {a b c : World} (h : Kept S a b) (k : Kept (Gr S a b) b c) : Kept S a c :=
  ⟨k.os.trans h.os, k.tape.trans h.tape, k.output.trans h.output, Nat.le_trans h.size k.size, fun i hi hs => (k.block i (Nat.lt_of_lt_of_le hi h.size) (fun hg => by
    rcases hg with hg | hg
    · exact hs hg
    · omega)).trans (h.block i hi hs)⟩
theorem Kept.mono {S S' : Nat → Prop} {a b : World} (h : Kept S a b) (hs : ∀ k, S k → S' k) : Kept S' a b := ⟨h.os, h.tape, h.output, h.size, fun k hk hn => h.block k hk (fun x => hn (hs k x))⟩
theorem Kept.trans' {S : Nat → Prop} {a b c : World} (h : Kept S a b) (k : Kept S b c) : Kept S a c := h.trans (k.mono (fun _ x => .inl x))
theorem Kept.of_below {S : Nat → Prop} {w w' : World} (h : Below w.heap.size w w') : Kept S w w' := ⟨h.os, h.tape, h.output, h.size, fun k hk _ => h.block k hk⟩
theorem Kept.below {S : Nat → Prop} {w w' : World} {B : Nat} (h : Kept S w w') (hs : ∀ k, S k → B ≤ k) (hB : B ≤ w.heap.size) : Below B w w' :=
  ⟨h.os, h.tape, h.output, h.size, fun k hk => h.block k (Nat.lt_of_lt_of_le hk hB) (fun x => by have := hs k x; omega)⟩
theorem Gr.mono {S S' : Nat → Prop} {w w' : World} (h : ∀ k, S k → S' k) : ∀ k, Gr S w w' k → Gr S' w w' k := fun k hk => hk.imp (h k) id
theorem Gr.step {S : Nat → Prop} {a b c : World} (h : a.heap.size ≤ b.heap.size) (h2 : b.heap.size ≤ c.heap.size) : ∀ k, Gr (Gr S a b) b c k → Gr S a c k := fun k hk => by
  rcases hk with (hk | hk) | hk
  · exact .inl hk
  · exact .inr ⟨hk.1, by omega⟩
  · exact .inr ⟨by omega, hk.2⟩
theorem Gr.ge {S : Nat → Prop} {w w' : World} {B : Nat} (h : ∀ k, S k → B ≤ k) (hB : B ≤ w.heap.size) : ∀ k, Gr S w w' k → B ≤ k := fun k hk => by
  rcases hk with hk | hk
  · exact h k hk
  · omega
theorem Dev.mono {S S' : Nat → Prop} {b : Nat} {h : Hd} {L : List Fl} {w : World} (d : Dev S b h L w) (hs : ∀ k, S k → S' k) : Dev S' b h L w := by
  obtain ⟨mb, h1, h2, h3, h4, h5, h6⟩ := d.f
  exact ⟨⟨mb, h1, h2, h3, h4, hs _ h5, hs _ h6⟩, d.fo, d.nm, d.n32, d.ff, fun f hf k hk => hs _ (d.ss f hf k hk)⟩
theorem Dev.lt {S : Nat → Prop} {b : Nat} {h : Hd} {L : List Fl} {w : World} (d : Dev S b h L w) : b < w.heap.size := by
  obtain ⟨mb, h1, _⟩ := d.f
  exact lt_of_block h1
/-- A device stays while none of its blocks is written. -/
theorem Dev.of_blocks {S : Nat → Prop} {b : Nat} {h : Hd} {L : List Fl} {w w' : World} (d : Dev S b h L w) (e : ∀ k, k < w.heap.size → S k → w'.heap[k]? = w.heap[k]?) : Dev S b h L w' := by
  obtain ⟨mb, h1, h2, h3, h4, h5, h6⟩ := d.f
  exact ⟨⟨mb, (e b (lt_of_block h1) h5).trans h1, h2.of_block (e mb h2.lt h6), h3, h4, h5, h6⟩,
    fun f hf => (d.fo f hf).of_blocks (fun k hk => e k ((d.fo f hf).lt hk) (d.ss f hf k hk)), d.nm, d.n32, d.ff, d.ss⟩
theorem Dev.below {S : Nat → Prop} {b : Nat} {h : Hd} {L : List Fl} {w w' : World} (d : Dev S b h L w) (hB : Below w.heap.size w w') : Dev S b h L w' := d.of_blocks (fun k hk _ => hB.block k hk)
theorem Dev.kept {S S2 : Nat → Prop} {b : Nat} {h : Hd} {L : List Fl} {w w' : World} (d : Dev S b h L w) (hk : Kept S2 w w') (hd : ∀ k, S k → ¬ S2 k) : Dev S b h L w' := d.of_blocks (fun k h1 h2 => hk.block k h1 (hd k h2))
/-- The device's own block is written. -/
theorem Dev.setH {S : Nat → Prop} {b : Nat} {h h' : Hd} {L : List Fl} {w w' : World} (d : Dev S b h L w) (hb : ∀ mb, w.heap[b]? = some (.cells (hdV h mb) 63 (0, 0)) → w'.heap[b]? = some (.cells (hdV h' mb) 63 (0, 0))) (e : ∀ k, k < w.heap.size → k ≠ b → w'.heap[k]? = w.heap[k]?) : Dev S b h' L w' := by
  obtain ⟨mb, h1, h2, h3, h4, h5, h6⟩ := d.f
  exact ⟨⟨mb, hb mb h1, h2.of_block (e mb h2.lt (Ne.symm h3)), h3, h4, h5, h6⟩,
    fun f hf => (d.fo f hf).of_blocks (fun k hk => e k ((d.fo f hf).lt hk) (fun x => (h4 f hf).1 (x ▸ hk))), d.nm, d.n32, d.ff, d.ss⟩
/-- A file is written: in its own blocks, or in new ones. -/
theorem Dev.setF {S : Nat → Prop} {b : Nat} {h : Hd} {L : List Fl} {w w' : World} {f f' : Fl} (d : Dev S b h L w) (hf : f ∈ L) (hn : f'.nm = f.nm) (hB : f'.B = f.B) (ho : Fok w' f')
    (hsz : w.heap.size ≤ w'.heap.size) (e : ∀ k, k < w.heap.size → k ∉ f.bl → w'.heap[k]? = w.heap[k]?) (hv : ∀ g, f'.v.ownBlock = some g → f.v.ownBlock = some g ∨ w.heap.size ≤ g) : Dev (Gr S w w') b h (upd L f') w' := by
  obtain ⟨mb, h1, h2, h3, h4, h5, h6⟩ := d.f
  have hl : look L f'.nm = some f := by rw [hn]; exact look_mem d.nm hf
  have hfb := (d.fo f hf).lt (k := f.B) (Fl.mem_bl.2 (.inl rfl))
  have hbl : ∀ k ∈ f'.bl, k ∈ f.bl ∨ (w.heap.size ≤ k ∧ k < w'.heap.size) := fun k hk => by
    have hlt := ho.lt hk
    rcases Fl.mem_bl.1 hk with rfl | hk
    · exact .inl (Fl.mem_bl.2 (.inl hB))
    · rcases hv k hk with h | h
      · exact .inl (Fl.mem_bl.2 (.inr h))
      · exact .inr ⟨h, hlt⟩
  have hmem : ∀ g ∈ upd L f', g = f' ∨ (g ∈ L ∧ g.nm ≠ f.nm) := fun g hg => by have := upd_mem hg; rw [hn] at this; exact this
  have hlen : (upd L f').length = L.length := by rw [upd_some hl]; simp
  have hother : ∀ g ∈ L, g.nm ≠ f.nm → ∀ k ∈ g.bl, k ∉ f'.bl := fun g hg hne k hk hk' => by
    rcases hbl k hk' with h | h
    · exact d.ff g hg f hf hne k hk h
    · have := (d.fo g hg).lt hk; omega
  refine ⟨⟨mb, (e b (lt_of_block h1) (h4 f hf).1).trans h1, ?_, h3, ?_, .inl h5, .inl h6⟩, ?_, upd_names d.nm, ?_, ?_, ?_⟩
  · obtain ⟨D, q1, q2, q3⟩ := (h2.of_block (e mb h2.lt (h4 f hf).2.1)).own
    refine ⟨D, by rw [hlen]; exact q1, by rw [hlen]; exact q2, fun x hx z => ?_⟩
    rw [q3 x hx z, look_upd]
    by_cases hxx : f'.nm = x
    · rw [if_pos hxx, ← hxx, hl]
      show ptrD (some f.B) = ptrD (some f'.B)
      rw [hB]
    · rw [if_neg hxx]
  · intro g hg
    rcases hmem g hg with rfl | ⟨hg, _⟩
    · refine ⟨fun hk => ?_, fun hk => ?_, fun e2 => ?_⟩
      · rcases hbl b hk with h | h
        · exact (h4 f hf).1 h
        · have := lt_of_block h1; omega
      · rcases hbl mb hk with h | h
        · exact (h4 f hf).2.1 h
        · have := h2.lt; omega
      · rw [hB] at e2
        rcases hv _ e2 with h | h
        · exact (h4 f hf).2.2 h
        · omega
    · exact h4 g hg
  · intro g hg
    rcases hmem g hg with rfl | ⟨hg, hne⟩
    · exact ho
    · exact (d.fo g hg).of_blocks (fun k hk => e k ((d.fo g hg).lt hk) (d.ff g hg f hf hne k hk))
  · intro g hg
    rcases hmem g hg with rfl | ⟨hg, _⟩
    · rw [hn]; exact d.n32 f hf
    · exact d.n32 g hg
  · intro g hg g2 hg2 hne k hk
    rcases hmem g hg with e1 | ⟨hgm, h1n⟩ <;> rcases hmem g2 hg2 with e2 | ⟨hgm2, h2n⟩
    · exact absurd (by rw [e1, e2]) hne
    · rw [e1] at hk
      exact fun hk2 => hother g2 hgm2 h2n k hk2 hk
    · rw [e2]
      exact hother g hgm h1n k hk
    · exact d.ff g hgm g2 hgm2 hne k hk
  · intro g hg k hk
    rcases hmem g hg with rfl | ⟨hg, _⟩
    · rcases hbl k hk with h | h
      · exact .inl (d.ss f hf k h)
      · exact .inr h
    · exact .inl (d.ss g hg k hk)
end Go.Proofs.Ytfmcemedaehcoaa
