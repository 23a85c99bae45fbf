/- Walks: the power goes. -/
import Derived.Test.YtfmcemedaehcoaaWd
namespace Go.Proofs.Ytfmcemedaehcoaa
set_option linter.unusedVariables false
set_option linter.unusedSimpArgs false
open Go.ChangeShapes Go.WideShapes Go.ChangeAt Go.RowKit

def offH (h : Hd) : Hd := ⟨h.room, h.acts, true, 0, 0, false⟩
theorem look_map {L : List Fl} {φ : Fl → Fl} (h : ∀ f, (φ f).nm = f.nm) (x : ByteArray) : look (L.map φ) x = (look L x).map φ := by
  unfold look
  induction L with
  | nil => rfl
  | cons f L ih =>
    rw [List.map_cons, List.find?_cons, List.find?_cons, h f]
    by_cases hx : f.nm = x
    · rw [decide_eq_true hx]; rfl
    · rw [decide_eq_false hx]; exact ih
theorem loseF_bl {keep : Int} {torn : Bool} {f : Fl} {w : World} (hf : Fok w f) : (loseF keep torn f).bl = f.bl := by
  obtain ⟨p, c, hv⟩ := row_shape hf
  unfold Fl.bl loseF
  simp only [hv, uptoV]
  cases p <;> rfl
/-- The power goes: each file has lost what it must. -/
theorem Dev.lose {S : Nat → Prop} {b : Nat} {h h' : Hd} {L : List Fl} {w w' : World} {keep : Int} {torn : Bool} (d : Dev S b h L w) (hb : ∀ mb, w.heap[b]? = some (.cells (hdV h mb) 63 (0, 0)) → w'.heap[b]? = some (.cells (hdV h' mb) 63 (0, 0)))
    (hm : ∀ mb, MapOk mb L w → w.heap[b]? = some (.cells (hdV h mb) 63 (0, 0)) → w'.heap[mb]? = w.heap[mb]?) (hf : ∀ f ∈ L, Fok w' (loseF keep torn f)) : Dev S b h' (L.map (loseF keep torn)) w' := by
  obtain ⟨mb, h1, h2, h3, h4, h5, h6⟩ := d.f
  have hbl : ∀ f ∈ L, (loseF keep torn f).bl = f.bl := fun f hf => loseF_bl (d.fo f hf)
  have hmem : ∀ g ∈ L.map (loseF keep torn), ∃ f ∈ L, g = loseF keep torn f := fun g hg => by
    obtain ⟨f, hf, e⟩ := List.mem_map.1 hg; exact ⟨f, hf, e.symm⟩
  have hnm : ∀ f, (loseF keep torn f).nm = f.nm := fun _ => rfl
  refine ⟨⟨mb, hb mb h1, ?_, h3, ?_, h5, h6⟩, ?_, ?_, ?_, ?_, ?_⟩
  · obtain ⟨D, q1, q2, q3⟩ := (h2.of_block (hm mb h2 h1)).own
    refine ⟨D, by rw [List.length_map]; exact q1, by rw [List.length_map]; exact q2, fun x hx z => ?_⟩
    rw [q3 x hx z, look_map hnm]
    cases look L x <;> rfl
  · intro g hg
    obtain ⟨f, hf, rfl⟩ := hmem g hg
    have hx := h4 f hf
    refine ⟨by rw [hbl f hf]; exact hx.1, by rw [hbl f hf]; exact hx.2.1, ?_⟩
    obtain ⟨p, c, hv⟩ := row_shape (d.fo f hf)
    have h9 := hx.2.2
    rw [hv] at h9
    show (uptoV f.v _).ownBlock ≠ some f.B
    rw [hv]
    cases p <;> exact h9
  · intro g hg
    obtain ⟨f, hf2, rfl⟩ := hmem g hg
    exact hf f hf2
  · rw [List.map_map, show (Fl.nm ∘ loseF keep torn) = Fl.nm from rfl]; exact d.nm
  · intro g hg
    obtain ⟨f, hf2, rfl⟩ := hmem g hg
    exact d.n32 f hf2
  · intro g hg g2 hg2 hne k hk
    obtain ⟨f, hf2, rfl⟩ := hmem g hg
    obtain ⟨f2, hf3, rfl⟩ := hmem g2 hg2
    rw [hbl f hf2] at hk
    rw [hbl f2 hf3]
    exact d.ff f hf2 f2 hf3 hne k hk
  · intro g hg k hk
    obtain ⟨f, hf2, rfl⟩ := hmem g hg
    rw [hbl f hf2] at hk
    exact d.ss f hf2 k hk
set_option maxRecDepth 100000 in
theorem off_down {S : Nat → Prop} {b : Nat} {h : Hd} {L : List Fl} {w : World} (d : Dev S b h L w) (hd : h.down = true) (keep : Int) (torn : Bool) : Calls Try.prog 25 #[.pointer (some ⟨b, 0, none⟩), .int .i64 keep, .bool torn] w fun e w' => e = .returned (.tuple #[]) ∧ w = w' := by
  obtain ⟨mb, hb, _⟩ := d.f
  obtain ⟨room, acts, down, left, keep0, torn0⟩ := h
  obtain rfl : down = true := hd
  have c3 : w.cell? ⟨b, 3, none⟩ = some (.bool true) := block_cell hb 3
  clear d hb
  go_enter Try.func25, Try.ntmps25
  go_wp2_with fail
  (try simp only [Exit.inBlock, Exit.then])
  exact bodyPost_ret (v := .tuple #[]) (by simp [results, Try.results25]) rfl ⟨rfl, rfl⟩
set_option maxRecDepth 100000 in
set_option maxHeartbeats 2000000 in
theorem off_any {S : Nat → Prop} {b : Nat} {h : Hd} {L : List Fl} {w : World} (d : Dev S b h L w) (hd : h.down = false) (keep : Int) (torn : Bool) (ht : ∀ f ∈ L, f.d.length ≤ 16777216) : Calls Try.prog 25 #[.pointer (some ⟨b, 0, none⟩), .int .i64 keep, .bool torn] w fun e w' => e = .returned (.tuple #[]) ∧ Dev S b (offH h) (L.map (loseF keep torn)) w' ∧ Kept S w w' := by
  have HD := Lib.hid d
  obtain ⟨mb, hb, hm, hbm, hbl, hSb, hSm⟩ := d.f
  obtain ⟨D, hown, hsz, hDD⟩ := hm.own
  have HDk := Lib.hid (show DOk D L from hDD)
  obtain ⟨room, acts, down, left0, keep0, torn0⟩ := h
  obtain rfl : down = false := hd
  have c3 : w.cell? ⟨b, 3, none⟩ = some (.bool false) := block_cell hb 3
  have c1 : w.cell? ⟨b, 1, none⟩ = some (.map (some mb)) := block_cell hb 1
  have Hown := Lib.hid hown
  have Hb := Lib.hid hb
  have Hm := Lib.hid hm
  have Hbl := Lib.hid hbl
  have Hht := Lib.hid ht
  have Hhas := Lib.hid (fun f (hf : f ∈ L) => (show DOk D L from hDD).has d.nm hf (d.n32 f hf))
  have hbm1 := hm.lt
  have hb1 := lt_of_block hb
  clear d hb hm hsz hDD hown hbl ht
  go_enter Try.func25, Try.ntmps25
  go_wp2_with (first | (at_range; refine wpList_range_own _ rfl _ 59 rfl 9 64 key9 Try.underlying59 ptrR mb L.length D rfl Hown.out ?_; intro w0 hrg0 hg0 hs0))
  go_frame
  go_loopg [] (Maps.size D) (fun g wr => ∃ left : Lit → Bool, Hid (wr.ranges Try.prog 9 ptrR mb w.heap.size L.length D left g) ∧ Hid (∀ f ∈ L, Fok wr (if left (keyL f.nm) = true then f else loseF keep torn f)) ∧ Hid (wr.heap[b]? = w.heap[b]?) ∧ Hid (wr.heap[mb]? = w.heap[mb]?) ∧ Hid (Kept S w wr))
  case atStart =>
    have hK0 : Below w.heap.size w w0 := ⟨hg0.os, hg0.tape, hg0.output, hg0.size, fun k hk => hg0.block k hk (by simp)⟩
    exact ⟨_, Lib.hid hrg0, Lib.hid (fun f hf => by rw [if_pos (Hhas.out f hf)]; exact (HD.out.fo f hf).of_blocks (fun k hk => hK0.block k ((HD.out.fo f hf).lt hk))), Lib.hid (hK0.block b hb1), Lib.hid (hK0.block mb hbm1), Lib.hid (Kept.of_below hK0)⟩
  case round =>
    obtain ⟨left, hrg, hfo, heb, hem, hK⟩ := hrel
    go_wp2_with (first | (at_next; refine wpList_next_ranges _ rfl _ rfl 9 key9 ptrR Value.string ptrV invK9 invV9 mb w.heap.size L.length _ _ _ rfl hrg.out ?_ ?_))
    · intro _ hl0
      have hb2 := heb.out.trans Hb.out
      have d3 : wr.cell? ⟨b, 3, none⟩ = some (.bool false) := block_cell hb2 3
      have f3 := block_free hb2 3
      have hb3 := block_set (i := 3) (u := .bool true) hb2
      have e4 : (wr.setCell ⟨b, 3, none⟩ (.bool true)).cell? ⟨b, 4, none⟩ = some (.int .i64 left0) := block_cell hb3 4
      have e5 : (wr.setCell ⟨b, 3, none⟩ (.bool true)).cell? ⟨b, 5, none⟩ = some (.int .i64 keep0) := block_cell hb3 5
      have e6 : (wr.setCell ⟨b, 3, none⟩ (.bool true)).cell? ⟨b, 6, none⟩ = some (.bool torn0) := block_cell hb3 6
      have g4 := block_free hb3 4
      have g5 := block_free hb3 5
      have g6 := block_free hb3 6
      have Hfin := Lib.hid (show Dev S b (offH ⟨room, acts, false, left0, keep0, torn0⟩) (L.map (loseF keep torn)) ((((wr.setCell ⟨b, 3, none⟩ (.bool true)).setCell ⟨b, 4, none⟩ (.int .i64 0)).setCell ⟨b, 5, none⟩ (.int .i64 0)).setCell ⟨b, 6, none⟩ (.bool false)) from by
        have ho : ∀ k, k ≠ b → ((((wr.setCell ⟨b, 3, none⟩ (.bool true)).setCell ⟨b, 4, none⟩ (.int .i64 0)).setCell ⟨b, 5, none⟩ (.int .i64 0)).setCell ⟨b, 6, none⟩ (.bool false)).heap[k]? = wr.heap[k]? := fun k hk => by
          rw [set_other _ _ _ _ _ hk, set_other _ _ _ _ _ hk, set_other _ _ _ _ _ hk, set_other _ _ _ _ _ hk]
        refine HD.out.lose ?_ ?_ ?_
        · intro mb2 hb9
          have e9 := heb.out.trans hb9
          exact block_set (i := 6) (u := .bool false) (block_set (i := 5) (u := .int .i64 0) (block_set (i := 4) (u := .int .i64 0) (block_set (i := 3) (u := .bool true) e9)))
        · intro mb2 _ hb9
          have : mb2 = mb := by
            have h8 := hb9.symm.trans Hb.out
            simp only [hdV, Option.some.injEq, Obj.cells.injEq, Array.mk.injEq, List.cons.injEq, Value.map.injEq] at h8
            exact h8.1.2.1
          subst this
          exact (ho _ (Ne.symm hbm)).trans hem.out
        · intro f hf
          have h7 := hfo.out f hf
          rw [if_neg (by rw [hl0]; decide)] at h7
          exact h7.of_blocks (fun k hk => ho k (fun e => (Hbl.out f hf).1 (by rw [← e, ← loseF_bl (keep := keep) (torn := torn) (HD.out.fo f hf)]; exact hk))))
      have HKf := Lib.hid ((((hK.out.setCell (.inl hSb) 3 (.bool true)).setCell (.inl hSb) 4 (.int .i64 0)).setCell (.inl hSb) 5 (.int .i64 0)).setCell (.inl hSb) 6 (.bool false))
      clear hb2 hb3 hl0
      go_wp2_with fail
      exact bodyPost_end (v := .tuple #[]) (by simp [results, Try.results25]) rfl ⟨rfl, Hfin.out, HKf.out⟩
    · intro x c kl y1 y2 w1 cnt1 hkey hlk hv hat hrg1 hlt hg1 hs1 hen
      obtain ⟨f, hl, rfl, rfl⟩ := HDk.out.step (y := (y1, y2)) hkey hv hat
      obtain ⟨hf, hfn⟩ := look_some hl
      have hE1 : ∀ k, k < w.heap.size → w1.heap[k]? = wr.heap[k]? := fun k hk => hg1.block k (Nat.lt_of_lt_of_le hk hK.out.size) (fun e => by injection e with e; omega)
      have hfw := HD.out.fo f hf
      have hfr := hfo.out f hf
      rw [hfn, if_pos hlk] at hfr
      have hf1 : Fok w1 f := hfr.of_blocks (fun k hk => hE1 k (hfw.lt hk))
      have HL := Lib.hid (lose_any f w1 hf1 (Hbl.out f hf).2.2 keep torn (Hht.out f hf))
      have hen2 : (Instr.entry (.pointer (some ⟨w.heap.size, 0, none⟩))).run Try.prog w1 = .ok (.tuple #[.string x, .pointer (some ⟨f.B, 0, none⟩)]) w1 := hen
      have HR1 := Lib.hid hrg1
      have HE1 := Lib.hid hE1
      have Hg1 := Lib.hid hg1
      have Hfn := Lib.hid hfn
      have Hf := Lib.hid hf
      have Hlk := Lib.hid hlk
      clear hrg1 hrg hat hkey hv hlk hg1 hen hfr hf1 hE1 hl hfn hf
      go_wp2_with fail
      refine HL.out.mono ?_
      rintro e1 w2 ⟨rfl, f', hf'⟩
      obtain rfl := hf'.eq
      have hsz1 := hs1
      have hfl : ∀ k ∈ f.bl, k < w.heap.size := fun k hk => hfw.lt hk
      have hno : ∀ k, k < w1.heap.size → k ∉ f.bl → w2.heap[k]? = w1.heap[k]? := hf'.block
      have hR2 := Lib.hid (ranges_of HR1.out (hno mb (by have := HR1.out.owns.lt; omega) (Hbl.out f Hf.out).2.1) (hno w.heap.size (by have := HR1.out.lt; omega) (fun hk => by have := hfl _ hk; omega)))
      have hK2 := Lib.hid (show Kept S w w2 from ⟨hf'.os.trans (Hg1.out.os.trans hK.out.os), hf'.tape.trans (Hg1.out.tape.trans hK.out.tape), hf'.output.trans (Hg1.out.output.trans hK.out.output), by have h1 := hf'.size; have h2 := hK.out.size; omega, fun k hk hS => (hno k (by have := hK.out.size; omega) (fun hx => hS (HD.out.ss f Hf.out k hx))).trans ((HE1.out k hk).trans (hK.out.block k hk hS))⟩)
      have hb2 := Lib.hid ((hno b (by have := hK.out.size; omega) (Hbl.out f Hf.out).1).trans ((HE1.out b hb1).trans heb.out))
      have hm2 := Lib.hid ((hno mb (by have := hK.out.size; omega) (Hbl.out f Hf.out).2.1).trans ((HE1.out mb hbm1).trans hem.out))
      have hfo2 := Lib.hid (show ∀ g ∈ L, Fok w2 (if strike left (keyL x) (keyL g.nm) = true then g else loseF keep torn g) from fun g hg => by
        by_cases hgx : g.nm = x
        · have : g = f := by
            have h1 := look_mem HD.out.nm hg
            have h2 := look_mem HD.out.nm Hf.out
            rw [hgx, ← Hfn.out, h2] at h1
            injection h1 with h1; exact h1.symm
          subst this
          rw [hgx, strike_self, if_neg (by decide)]
          exact hf'.ok
        · rw [strike_other hgx]
          have h1 := hfo.out g hg
          have hgw := HD.out.fo g hg
          have hne : g.nm ≠ f.nm := fun e => hgx (e.trans Hfn.out)
          have hgb : ∀ k ∈ g.bl, w2.heap[k]? = wr.heap[k]? := fun k hk => (hno k (by have := hgw.lt hk; have := hK.out.size; omega) (HD.out.ff g hg f Hf.out hne k hk)).trans (HE1.out k (hgw.lt hk))
          split at h1
          · rename_i hx; rw [if_pos hx]; exact h1.of_blocks hgb
          · rename_i hx; rw [if_neg hx]; exact h1.of_blocks (by rw [loseF_bl hgw]; exact hgb))
      clear hf' hno hfl
      go_wp2_with fail
      go_roundg cnt1
      case measure => exact hlt
      case rel => exact ⟨strike left (keyL x), hR2, hfo2, hb2, hm2, hK2⟩
end Go.Proofs.Ytfmcemedaehcoaa
