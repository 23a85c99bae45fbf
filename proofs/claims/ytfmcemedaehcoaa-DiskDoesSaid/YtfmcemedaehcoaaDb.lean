/- The theory of a device: a file is put, or taken away; its map. -/
import Derived.Test.YtfmcemedaehcoaaWf
namespace Go.Proofs.Ytfmcemedaehcoaa
set_option linter.unusedVariables false
set_option linter.unusedSimpArgs false
open Go.ChangeShapes Go.WideShapes Go.ChangeAt Go.RowKit

theorem ownsMap_size {w : World} {R : Value → Option (DataW Unit × List MemPlace)} {mb n : Nat} {D : DataW Unit} (h : w.ownsMap Try.prog 9 R mb n D) : w.ownsMap Try.prog 9 R mb (Maps.size D) D := by
  obtain ⟨es, clock, hb, F, hs, hD⟩ := h
  refine ⟨es, clock, hb, F, ?_, hD⟩
  rw [hD]
  simp [Maps.size, length_sorted]
theorem keyL_key (x : ByteArray) : WideAt.IsKeyLit (keyL x) := trivial
theorem DOk.has_iff {D : DataW Unit} {L : List Fl} (h : DOk D L) {x : ByteArray} (hx : x.size ≤ maxLen) : Maps.has D (keyL x) = (look L x).isSome := by
  cases hl : look L x with
  | none => exact Maps.has_false_of_atKey (fun z => by have := h x hx z; rw [hl] at this; exact this)
  | some f => exact Maps.has_true_of_atKey (y := ptrD (some f.B)) (fun z => by have := h x hx z; rw [hl] at this; exact this)
theorem drp_len {L : List Fl} {x : ByteArray} (hn : (L.map Fl.nm).Nodup) : (drp L x).length + (if (look L x).isSome = true then 1 else 0) = L.length := by
  induction L with
  | nil => rfl
  | cons f L ih =>
    rw [List.map_cons, List.nodup_cons] at hn
    have ih := ih hn.2
    unfold drp look at *
    rw [List.filter_cons, List.find?_cons]
    by_cases hf : f.nm = x
    · rw [if_neg (by simp [hf]), decide_eq_true hf]
      have hno : List.find? (fun f => decide (f.nm = x)) L = none := List.find?_eq_none.2 (fun g hg => by
        simp only [decide_eq_true_eq]
        intro e
        exact hn.1 (hf ▸ e ▸ List.mem_map_of_mem hg))
      rw [hno] at ih
      simp at ih ⊢
      exact ih
    · rw [if_pos (by simp [hf]), decide_eq_false hf, List.length_cons, List.length_cons]
      show _ + 1 + (if (List.find? (fun f => decide (f.nm = x)) L).isSome = true then 1 else 0) = _
      omega
theorem upd_length {L : List Fl} {f' : Fl} : (upd L f').length = if (look L f'.nm).isSome = true then L.length else L.length + 1 := by
  unfold upd
  split <;> simp
theorem MapOk.del {w w' : World} {mb n m : Nat} {L : List Fl} {D : DataW Unit} {x : ByteArray} (h0 : w.ownsMap Try.prog 9 ptrR mb m D) (hD : DOk D L) (hs : Maps.size D = L.length) (hn : (L.map Fl.nm).Nodup) (hx : x.size ≤ maxLen) (h : w'.ownsMap Try.prog 9 ptrR mb n (D.del (keyL x))) : MapOk mb (drp L x) w' := by
  have hsz : Maps.size (D.del (keyL x)) = (drp L x).length := by
    have h1 := Maps.size_del (k := keyL x) (h0.tidy key9)
    have h2 := drp_len (x := x) hn
    rw [hD.has_iff hx] at h1
    omega
  refine ⟨_, by rw [← hsz]; exact ownsMap_size h, hsz, fun y hy z => ?_⟩
  rw [look_drp]
  by_cases hyx : y = x
  · subst hyx
    rw [if_pos rfl]
    exact Maps.atKey_del_same z
  · rw [if_neg hyx]
    exact (Maps.atKey_del_other (keyL_ne hyx) z).trans (hD y hy z)
theorem MapOk.put {w w' : World} {mb n m : Nat} {L : List Fl} {D : DataW Unit} {f' : Fl} (h0 : w.ownsMap Try.prog 9 ptrR mb m D) (hD : DOk D L) (hs : Maps.size D = L.length) (hx : f'.nm.size ≤ maxLen) (h : w'.ownsMap Try.prog 9 ptrR mb n (D.put (keyL f'.nm) (ptrD (some f'.B)))) : MapOk mb (upd L f') w' := by
  have hsz : Maps.size (D.put (keyL f'.nm) (ptrD (some f'.B))) = (upd L f').length := by
    rw [Maps.size_put (h0.tidy key9), hD.has_iff hx, upd_length, hs]
  refine ⟨_, by rw [← hsz]; exact ownsMap_size h, hsz, fun y hy z => ?_⟩
  rw [look_upd]
  by_cases hyx : f'.nm = y
  · subst hyx
    rw [if_pos rfl]
    exact Maps.atKey_put_same h0.isMap (keyL_key _) _ z
  · rw [if_neg hyx]
    exact (Maps.atKey_put_other (keyL_ne (Ne.symm hyx)) _ z).trans (hD y hy z)
/-- A file is taken away. -/
theorem Dev.drop {S : Nat → Prop} {b : Nat} {h : Hd} {L : List Fl} {w w' : World} {x : ByteArray} (d : Dev S b h L w) (hm : ∀ mb, w.heap[b]? = some (.cells (hdV h mb) 63 (0, 0)) → MapOk mb (drp L x) w' ∧ ∀ k, k < w.heap.size → k ≠ mb → w'.heap[k]? = w.heap[k]?) : Dev S b h (drp L x) w' := by
  obtain ⟨mb, h1, h2, h3, h4, h5, h6⟩ := d.f
  obtain ⟨m1, m2⟩ := hm mb h1
  have hsub : ∀ g ∈ drp L x, g ∈ L := fun g hg => (drp_mem.1 hg).1
  exact ⟨⟨mb, (m2 b (lt_of_block h1) h3).trans h1, m1, h3, fun g hg => h4 g (hsub g hg), h5, h6⟩,
    fun g hg => (d.fo g (hsub g hg)).of_blocks (fun k hk => m2 k ((d.fo g (hsub g hg)).lt hk) (fun e => (h4 g (hsub g hg)).2.1 (e ▸ hk))), drp_names d.nm, fun g hg => d.n32 g (hsub g hg),
    fun f hf g hg => d.ff f (hsub f hf) g (hsub g hg), fun f hf => d.ss f (hsub f hf)⟩
/-- A file is put: in blocks that no other one has. -/
theorem Dev.put {S : Nat → Prop} {b : Nat} {h : Hd} {L : List Fl} {w w' : World} {f' : Fl} (d : Dev S b h L w) (h32 : f'.nm.size ≤ 32) (hf : Fok w' f')
    (hm : ∀ mb, w.heap[b]? = some (.cells (hdV h mb) 63 (0, 0)) → MapOk mb (upd L f') w' ∧ (∀ k, k < w.heap.size → k ≠ mb → w'.heap[k]? = w.heap[k]?) ∧ b ∉ f'.bl ∧ mb ∉ f'.bl)
    (hown : f'.v.ownBlock ≠ some f'.B) (hdis : ∀ g ∈ L, ∀ k ∈ f'.bl, k ∉ g.bl) (hS : ∀ k ∈ f'.bl, S k) : Dev S b h (upd L f') w' := by
  obtain ⟨mb, h1, h2, h3, h4, h5, h6⟩ := d.f
  obtain ⟨m1, m2, m3, m4⟩ := hm mb h1
  refine ⟨⟨mb, (m2 b (lt_of_block h1) h3).trans h1, m1, h3, fun g hg => ?_, h5, h6⟩, fun g hg => ?_, upd_names d.nm, fun g hg => ?_, fun f hf2 g hg hne k hk => ?_, fun g hg k hk => ?_⟩
  · rcases upd_mem hg with rfl | ⟨hg, _⟩
    · exact ⟨m3, m4, hown⟩
    · exact h4 g hg
  · rcases upd_mem hg with rfl | ⟨hg, _⟩
    · exact hf
    · exact (d.fo g hg).of_blocks (fun k hk => m2 k ((d.fo g hg).lt hk) (fun e => (h4 g hg).2.1 (e ▸ hk)))
  · rcases upd_mem hg with rfl | ⟨hg, _⟩
    · exact h32
    · exact d.n32 g hg
  · rcases upd_mem hf2 with e1 | ⟨hf2, n1⟩ <;> rcases upd_mem hg with e2 | ⟨hg, n2⟩
    · exact absurd (by rw [e1, e2]) hne
    · rw [e1] at hk; exact hdis g hg k hk
    · rw [e2]; exact fun hk2 => hdis f hf2 k hk2 hk
    · exact d.ff f hf2 g hg hne k hk
  · rcases upd_mem hg with rfl | ⟨hg, _⟩
    · exact hS k hk
    · exact d.ss g hg k hk
end Go.Proofs.Ytfmcemedaehcoaa
