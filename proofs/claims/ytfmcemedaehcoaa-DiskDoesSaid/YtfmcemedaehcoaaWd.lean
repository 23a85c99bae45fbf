/- Walks: over all files of a device: how much room is left; the power's going. -/
import Derived.Test.YtfmcemedaehcoaaWc
import Derived.Deep.LoopGhost
namespace Go.Proofs.Ytfmcemedaehcoaa
set_option linter.unusedVariables false
set_option linter.unusedSimpArgs false
open Go.ChangeShapes Go.WideShapes Go.ChangeAt Go.RowKit

def keyL (x : ByteArray) : Lit := .string x.data.toList
theorem keyL_ne {x y : ByteArray} (h : x ≠ y) : keyL x ≠ keyL y := fun e => h (by
  unfold keyL at e
  injection e with e
  exact ByteArray.ext (Array.ext' e))
theorem keyL_same (x y : ByteArray) : (keyL x).sameKey (keyL y) = decide (x = y) := by
  by_cases h : x = y
  · subst h
    rw [decide_eq_true rfl]
    exact WideAt.sameKey_self (show WideAt.IsKeyLit (keyL x) from trivial)
  · rw [decide_eq_false h]
    exact Maps.sameKey_ne (keyL_ne h)
/-- What the map's datum says of the files. -/
def DOk (D : DataW Unit) (L : List Fl) : Prop := ∀ x : ByteArray, x.size ≤ maxLen → ∀ z, D.atKey (.string x.data.toList) z = match look L x with | some f => ptrD (some f.B) | none => z
theorem DOk.step {D : DataW Unit} {L : List Fl} (h : DOk D L) {x : ByteArray} {c : Option Nat} {kl : Lit} {y : DataW Unit × List MemPlace} (hkey : keyOf Try.prog 9 (.string x) = some kl) (hv : ptrR (ptrV c) = some y) (hat : ∀ zd, D.atKey kl zd = y.1) : ∃ f, look L x = some f ∧ c = some f.B ∧ kl = keyL x := by
  obtain ⟨x', e1, e2, e3⟩ := keyS_inv hkey
  injection e1 with e1
  subst e1
  rw [ptrR_v] at hv
  injection hv with hv
  subst hv
  cases hl : look L x with
  | none =>
    have h1 := hat (ptrD (some 0))
    have h2 := hat (ptrD none)
    rw [e2, h x e3, hl] at h1 h2
    exact absurd (ptrD_inj (h1.trans h2.symm)) (by simp)
  | some f =>
    have h1 := hat (ptrD none)
    rw [e2, h x e3, hl] at h1
    exact ⟨f, rfl, (ptrD_inj h1).symm, e2⟩
theorem DOk.has {D : DataW Unit} {L : List Fl} (h : DOk D L) (hn : (L.map Fl.nm).Nodup) {f : Fl} (hf : f ∈ L) (h32 : f.nm.size ≤ 32) : Maps.has D (keyL f.nm) = true :=
  Maps.has_true_of_atKey (y := ptrD (some f.B)) (fun z => by
    have := h f.nm (by unfold maxLen; omega) z
    rw [look_mem hn hf] at this
    exact this)
def strike (left : Lit → Bool) (kl : Lit) : Lit → Bool := fun z => left z && !z.sameKey kl
theorem strike_other {left : Lit → Bool} {x y : ByteArray} (h : y ≠ x) : strike left (keyL x) (keyL y) = left (keyL y) := by
  unfold strike; rw [keyL_same, decide_eq_false h]; simp
theorem strike_self {left : Lit → Bool} {x : ByteArray} : strike left (keyL x) (keyL x) = false := by
  unfold strike; rw [keyL_same, decide_eq_true rfl]; simp
def total (L : List Fl) : Nat := (L.map fun f => f.d.length).sum
def doneSum (left : Lit → Bool) (L : List Fl) : Nat := (L.map fun f => if left (keyL f.nm) = true then 0 else f.d.length).sum
theorem done_start {left : Lit → Bool} : ∀ {L : List Fl}, (∀ f ∈ L, left (keyL f.nm) = true) → doneSum left L = 0
  | [], _ => rfl
  | f :: L, h => by
    unfold doneSum
    rw [List.map_cons, List.sum_cons, if_pos (h f List.mem_cons_self), Nat.zero_add]
    exact done_start (fun g hg => h g (List.mem_cons_of_mem _ hg))
theorem done_end {left : Lit → Bool} : ∀ {L : List Fl}, (∀ kl, left kl = false) → doneSum left L = total L
  | [], _ => rfl
  | f :: L, h => by
    unfold doneSum total
    rw [List.map_cons, List.sum_cons, if_neg (by rw [h]; decide), List.map_cons, List.sum_cons]
    congr 1
    exact done_end h
theorem done_skip {left : Lit → Bool} {x : ByteArray} : ∀ {L : List Fl}, (∀ f ∈ L, f.nm ≠ x) → doneSum (strike left (keyL x)) L = doneSum left L
  | [], _ => rfl
  | f :: L, h => by
    unfold doneSum
    rw [List.map_cons, List.sum_cons, List.map_cons, List.sum_cons, strike_other (h f List.mem_cons_self)]
    congr 1
    exact done_skip (fun g hg => h g (List.mem_cons_of_mem _ hg))
theorem done_step {left : Lit → Bool} {f : Fl} : ∀ {L : List Fl}, (L.map Fl.nm).Nodup → f ∈ L → left (keyL f.nm) = true → doneSum (strike left (keyL f.nm)) L = doneSum left L + f.d.length
  | g :: L, hn, hf, hl => by
    rw [List.map_cons, List.nodup_cons] at hn
    rcases List.mem_cons.1 hf with e | hf2
    · subst e
      have h1 := done_skip (left := left) (x := f.nm) (L := L) (fun g hg e => hn.1 (e ▸ List.mem_map_of_mem hg))
      unfold doneSum at h1 ⊢
      rw [List.map_cons, List.sum_cons, List.map_cons, List.sum_cons, strike_self, hl, if_neg (by decide), if_pos rfl, h1]
      omega
    · have hne : g.nm ≠ f.nm := fun e => hn.1 (e ▸ List.mem_map_of_mem hf2)
      have h1 := done_step hn.2 hf2 hl
      unfold doneSum at h1 ⊢
      rw [List.map_cons, List.sum_cons, List.map_cons, List.sum_cons, strike_other hne, h1]
      omega
theorem done_le {left : Lit → Bool} : ∀ {L : List Fl}, doneSum left L ≤ total L
  | [] => Nat.le_refl _
  | f :: L => by
    have := done_le (left := left) (L := L)
    unfold doneSum total at this ⊢
    rw [List.map_cons, List.sum_cons, List.map_cons, List.sum_cons]
    split <;> omega
theorem ranges_of {w w' : World} {mb r n : Nat} {D : DataW Unit} {left : Lit → Bool} {cnt : Nat} (h : w.ranges Try.prog 9 ptrR mb r n D left cnt) (e1 : w'.heap[mb]? = w.heap[mb]?) (e2 : w'.heap[r]? = w.heap[r]?) : w'.ranges Try.prog 9 ptrR mb r n D left cnt := by
  obtain ⟨es, clock, since, seen, c0, hb, F, hs, hD, hr, rest⟩ := h
  exact ⟨es, clock, since, seen, c0, e1.trans hb, F, hs, hD, e2.trans hr, rest⟩
theorem invK9 : ∀ key kl, keyOf Try.prog 9 key = some kl → ∃ x, key = Value.string x := fun key kl h => by
  obtain ⟨x, e, _⟩ := keyS_inv h; exact ⟨x, e⟩
theorem invV9 : ∀ v y, ptrR v = some y → ∃ c, v = ptrV c := fun v y h => by
  obtain ⟨c, e, _⟩ := ptrR_inv h; exact ⟨c, e⟩
set_option maxRecDepth 100000 in
set_option maxHeartbeats 1000000 in
theorem free_any {S : Nat → Prop} {b : Nat} {h : Hd} {L : List Fl} {w : World} (d : Dev S b h L w) (hr : 0 ≤ h.room ∧ h.room ≤ 1048576) (ht : total L ≤ 16777216) : Calls Try.prog 17 #[.pointer (some ⟨b, 0, none⟩)] w fun e w' => e = .returned (.int .i64 (h.room - (total L : Nat))) ∧ Below w.heap.size w w' := by
  have HD := Lib.hid d
  obtain ⟨mb, hb, hm, _⟩ := d.f
  obtain ⟨D, hown, hsz, hD⟩ := hm.own
  have HDk := Lib.hid (show DOk D L from hD)
  obtain ⟨room, acts, down, left0, keep, torn⟩ := h
  have c0 : w.cell? ⟨b, 0, none⟩ = some (.int .i64 room) := block_cell hb 0
  have c1 : w.cell? ⟨b, 1, none⟩ = some (.map (some mb)) := block_cell hb 1
  have Hown := Lib.hid hown
  have hr1 : 0 ≤ room := hr.1
  have hr2 : room ≤ 1048576 := hr.2
  have Hst := Lib.hid (done_start (left := Maps.has D) (fun f hf => (show DOk D L from hD).has d.nm hf (d.n32 f hf)))
  clear d hb hm hsz hD hown hr
  go_enter Try.func17, Try.ntmps17
  go_wp2_with (first | (at_range; refine wpList_range_own _ rfl _ 59 rfl 9 64 key9 Try.underlying59 ptrR mb L.length D rfl Hown.out ?_; intro w0 hrg0 hg0 hs0))
  go_frame
  go_loopg [3] (Maps.size D) (fun g fv wr => ∃ left : Lit → Bool, wr.ranges Try.prog 9 ptrR mb w.heap.size L.length D left g ∧ fv = .int .i64 (room - (doneSum left L : Nat)) ∧ Below w.heap.size w wr)
  case atStart => exact ⟨_, hrg0, by rw [Hst.out]; simp, ⟨hg0.os, hg0.tape, hg0.output, hg0.size, fun k hk => hg0.block k hk (by simp)⟩⟩
  case round =>
    obtain ⟨left, hrg, rfl, hB⟩ := hrel
    have hdl := done_le (left := left) (L := L)
    go_wp2_with (first | (at_next; refine wpList_next_ranges _ rfl _ rfl 9 key9 ptrR Value.string ptrV invK9 invV9 mb w.heap.size L.length _ _ _ rfl hrg ?_ ?_))
    · intro _ hl0
      have he := done_end (L := L) hl0
      go_wp2_with fail
      go_ret
      exact ⟨by rw [he]; rfl, hB⟩
    · intro x c kl y1 y2 w1 cnt1 hkey hlk hv hat hrg1 hlt hg1 hs1 hen
      obtain ⟨f, hl, rfl, rfl⟩ := HDk.out.step (y := (y1, y2)) hkey hv hat
      obtain ⟨hf, hfn⟩ := look_some hl
      have hB1 : Below w.heap.size w w1 := hB.grown hg1 hB.size (fun k hk => by injection hk with hk; omega)
      have hfo := HD.out.fo f hf
      have hbx := (hB1.block f.B (lt_of_block hfo.box)).trans hfo.box
      obtain ⟨pv, cv, hvv⟩ := row_shape hfo
      have d0 : w1.cell? ⟨f.B, 0, none⟩ = some f.v := block_cell hbx 0
      rw [hvv] at d0
      have hst := done_step (left := left) HD.out.nm hf (by rw [hfn]; exact hlk)
      rw [hfn] at hst
      have hdl2 := done_le (left := strike left (keyL x)) (L := L)
      have hen2 : (Instr.entry (.pointer (some ⟨w.heap.size, 0, none⟩))).run Try.prog w1 = .ok (.tuple #[.string x, .pointer (some ⟨f.B, 0, none⟩)]) w1 := hen
      have HR1 := Lib.hid hrg1
      have HB1 := Lib.hid hB1
      have Hst2 := Lib.hid hst
      clear hrg1 hrg hB hB1 hst hat hkey hv hlk hg1 hen hfo hbx hvv
      go_wp2_with fail
      go_roundg cnt1
      case measure => exact hlt
      case rel => exact ⟨strike left (keyL x), HR1.out, by rw [Hst2.out]; exact congrArg (Value.int .i64) (by have h2 := Hst2.out; unfold wrap64; omega), HB1.out⟩
end Go.Proofs.Ytfmcemedaehcoaa
