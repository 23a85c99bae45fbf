/- Walks: what the acts do: remove, rename. -/
import Derived.Test.YtfmcemedaehcoaaWg
namespace Go.Proofs.Ytfmcemedaehcoaa
set_option linter.unusedVariables false
set_option linter.unusedSimpArgs false
open Go.ChangeShapes Go.WideShapes Go.ChangeAt Go.RowKit Go.ChangeMaps

theorem Dev.name_le {S : Nat → Prop} {b : Nat} {h : Hd} {L : List Fl} {w : World} (d : Dev S b h L w) {f : Fl} (hf : f ∈ L) : f.nm.size ≤ maxLen := by have := d.n32 f hf; unfold maxLen; omega
/-- The map's block written, nothing else. -/
theorem turned_other {w w' : World} {mb k : Nat} (h : w.mapTurned w' mb) (hk : k < w.heap.size) (hne : k ≠ mb) : w'.heap[k]? = w.heap[k]? := h.grown.block k hk (fun e => hne (by injection e))
theorem drop_dev {S : Nat → Prop} {b mb : Nat} {h : Hd} {L : List Fl} {w wz w' : World} {x : ByteArray} {D : DataW Unit} (d : Dev S b h L w) (hb : w.heap[b]? = some (.cells (hdV h mb) 63 (0, 0))) (hm : MapOk mb L w) (hD : DOk D L) (hs : Maps.size D = L.length) (hown : wz.ownsMap Try.prog 9 ptrR mb L.length D) (hx : x.size ≤ maxLen)
    (hz : Below w.heap.size w wz) (h' : w'.ownsMap Try.prog 9 ptrR mb L.length (D.del (keyL x))) (ht : wz.mapTurned w' mb) (hS : S mb) : Dev S b h (drp L x) w' ∧ Kept S w w' ∧ w'.heap.size = wz.heap.size := by
  have hsz : w'.heap.size = wz.heap.size := by
    obtain ⟨es, clock, es', clock', hb, rfl⟩ := ht
    simp [setBlock]
  refine ⟨d.drop (fun mb2 hb2 => ?_), ⟨ht.grown.os.trans hz.os, ht.grown.tape.trans hz.tape, ht.grown.output.trans hz.output, by rw [hsz]; exact hz.size, fun k hk hn => (turned_other ht (Nat.lt_of_lt_of_le hk hz.size) (fun e => hn (e ▸ hS))).trans (hz.block k hk)⟩, hsz⟩
  have : mb2 = mb := by
    have h8 := hb2.symm.trans hb
    simp only [hdV, Option.some.injEq, Obj.cells.injEq, Array.mk.injEq, List.cons.injEq, Value.map.injEq] at h8
    exact h8.1.2.1
  subst this
  exact ⟨MapOk.del hown hD hs d.nm hx h', fun k hk hne => (turned_other ht (Nat.lt_of_lt_of_le hk hz.size) hne).trans (hz.block k hk)⟩
set_option maxRecDepth 100000 in
set_option maxHeartbeats 1000000 in
theorem remove1 {S : Nat → Prop} {b p q : Nat} {L : List Fl} {w : World} {x : ByteArray} (hx : x.size ≤ maxLen) (hp : BoxV S w p 25 (.pointer (some ⟨b, 0, none⟩))) (hq : BoxV S w q 9 (.string x)) : Does S b L (fun L2 => L2 = drp L x) 52 #[.pointer (some ⟨p, 0, none⟩), .pointer (some ⟨q, 0, none⟩)] w := by
  intro w1 h1 d hK
  have hb0 := hp.kept hK
  have hb1 := hq.kept hK
  obtain ⟨mb, hb, hm, hbm, h4, hSb, hSm⟩ := d.f
  obtain ⟨D, hown, hsz, hD⟩ := hm.own
  have H0 := Lib.hid (fun w9 (h9 : Below w1.heap.size w1 w9) => (by have e := (h9.cell (p := ⟨p, 0, none⟩) (lt_of_block hb0)).trans (block_cell hb0 0); simp [go_sem, e, hdV] : (loadVar 25 ⟨p, 0, none⟩).run Try.prog w9 = .ok (.pointer (some ⟨b, 0, none⟩)) w9))
  have H1 := Lib.hid (fun w9 (h9 : Below w1.heap.size w1 w9) => (by have e := (h9.cell (p := ⟨q, 0, none⟩) (lt_of_block hb1)).trans (block_cell hb1 0); simp [go_sem, e, hdV] : (loadVar 9 ⟨q, 0, none⟩).run Try.prog w9 = .ok (.string x) w9))
  have H2 := Lib.hid (fun w9 (h9 : Below w1.heap.size w1 w9) => (by have e := (h9.cell (p := ⟨b, 1, none⟩) (lt_of_block hb)).trans (block_cell hb 1); simp [go_sem, e, hdV] : (loadVar 59 ⟨b, 1, none⟩).run Try.prog w9 = .ok (.map (some mb)) w9))
  have HD := Lib.hid d
  have Hown := Lib.hid hown
  have Hb := Lib.hid hb
  have Hm := Lib.hid hm
  have Hsz := Lib.hid hsz
  have HDk := Lib.hid (show DOk D L from hD)
  clear d hb0 hb1 hb hm hown hsz hD h4
  go_enter Try.func52, Try.ntmps52
  go_wp2_with fail
  refine wp_region_class_tail (Below w1.heap.size w1) 5 (by kernel_rfl) (by kernel_rfl) (Below.refl _ _).drew ?_
  simp only [List.take_succ_cons, List.take_zero, List.drop_succ_cons, List.drop_zero]
  repeat (go_big_quiet_step (first | (intro _; rfl)))
  refine wpQuiet_load_at rfl 25 (.tmp 0) rfl ⟨p, 0, none⟩ rfl (.pointer (some ⟨b, 0, none⟩)) H0.out ?_
  simp only [Act.put, List.setIfInBounds_toArray, List.set_cons_succ, List.set_cons_zero]
  repeat (go_big_quiet_step (first | (intro _; rfl)))
  refine wpQuiet_load_at rfl 59 (.tmp 4) rfl ⟨b, 1, none⟩ rfl (.map (some mb)) H2.out ?_
  simp only [Act.put, List.setIfInBounds_toArray, List.set_cons_succ, List.set_cons_zero]
  repeat (go_big_quiet_step (first | (intro _; rfl)))
  refine wpQuiet_load_at rfl 9 (.tmp 1) rfl ⟨q, 0, none⟩ rfl (.string x) H1.out ?_
  simp only [Act.put, List.setIfInBounds_toArray, List.set_cons_succ, List.set_cons_zero]
  repeat (go_big_quiet_step (first | (intro _; rfl)))
  refine wpQuiet_nil ?_
  intro wz hz
  have hown2 := ownsMap_of Hown.out (hz.block mb Hm.out.lt)
  have Hown2 := Lib.hid hown2
  have Hz := Lib.hid hz
  clear hown2 hz
  go_wp2_with (first | (at_delete; refine wpList_delete_own _ rfl _ _ 59 9 rfl 64 key9 Try.underlying59 ptrR mb L.length D rfl Hown2.out _ _ rfl (keyS hx) ?_; intro w2 hown3 hturn))
  have hfin := drop_dev HD.out Hb.out Hm.out HDk.out Hsz.out Hown2.out hx Hz.out hown3 hturn hSm
  have Hfin := Lib.hid hfin
  clear hfin hown3 hturn
  go_wp2_with fail
  exact bodyPost_end (v := .tuple #[]) (by simp [results, Try.results52]) rfl ⟨rfl, Hfin.out.1.mono (fun k hk => .inl hk), Hfin.out.2.1⟩

def renF (f : Fl) (y : ByteArray) : Fl := ⟨y, f.B, f.v, f.d, f.s⟩
set_option maxRecDepth 100000 in
set_option maxHeartbeats 1000000 in
theorem rename1 {S : Nat → Prop} {b p q p2 q2 : Nat} {L : List Fl} {w : World} {f : Fl} {y : ByteArray} (hy : y.size ≤ 32) (hf : f ∈ L) (hL : L.length ≤ 1048576) (hp : BoxV S w p 25 (.pointer (some ⟨b, 0, none⟩))) (hq : BoxV S w q 9 (.string f.nm)) (hp2 : BoxV S w p2 64 (.pointer (some ⟨f.B, 0, none⟩))) (hq2 : BoxV S w q2 9 (.string y)) :
    Does S b L (fun L2 => L2 = upd (drp L f.nm) (renF f y)) 51 #[.pointer (some ⟨p, 0, none⟩), .pointer (some ⟨q, 0, none⟩), .pointer (some ⟨p2, 0, none⟩), .pointer (some ⟨q2, 0, none⟩)] w := by
  intro w1 h1 d hK
  have hb0 := hp.kept hK
  have hb1 := hq.kept hK
  obtain ⟨mb, hb, hm, hbm, h4, hSb, hSm⟩ := d.f
  obtain ⟨D, hown, hsz, hD⟩ := hm.own
  have hb2 := hp2.kept hK
  have hb3 := hq2.kept hK
  have H0 := Lib.hid (fun w9 (h9 : Below w1.heap.size w1 w9) => (by have e := (h9.cell (p := ⟨p, 0, none⟩) (lt_of_block hb0)).trans (block_cell hb0 0); simp [go_sem, e, hdV] : (loadVar 25 ⟨p, 0, none⟩).run Try.prog w9 = .ok (.pointer (some ⟨b, 0, none⟩)) w9))
  have H1 := Lib.hid (fun w9 (h9 : Below w1.heap.size w1 w9) => (by have e := (h9.cell (p := ⟨q, 0, none⟩) (lt_of_block hb1)).trans (block_cell hb1 0); simp [go_sem, e, hdV] : (loadVar 9 ⟨q, 0, none⟩).run Try.prog w9 = .ok (.string f.nm) w9))
  have H2 := Lib.hid (fun w9 (h9 : Below w1.heap.size w1 w9) => (by have e := (h9.cell (p := ⟨b, 1, none⟩) (lt_of_block hb)).trans (block_cell hb 1); simp [go_sem, e, hdV] : (loadVar 59 ⟨b, 1, none⟩).run Try.prog w9 = .ok (.map (some mb)) w9))
  have hx := d.name_le hf
  have HD := Lib.hid d
  have Hown := Lib.hid hown
  have Hb := Lib.hid hb
  have Hm := Lib.hid hm
  have Hsz := Lib.hid hsz
  have HDk := Lib.hid (show DOk D L from hD)
  have H4 := Lib.hid h4
  have Hb0 := Lib.hid hb0
  have Hb2 := Lib.hid hb2
  have Hb3 := Lib.hid hb3
  have Hno : Hid (mb ≠ p ∧ mb ≠ p2 ∧ mb ≠ q2) := Lib.hid ⟨fun e => hp.s (e ▸ hSm), fun e => hp2.s (e ▸ hSm), fun e => hq2.s (e ▸ hSm)⟩
  clear d hb0 hb1 hb2 hb3 hb hm hown hsz hD h4
  go_enter Try.func51, Try.ntmps51
  go_wp2_with fail
  refine wp_region_class_tail (Below w1.heap.size w1) 5 (by kernel_rfl) (by kernel_rfl) (Below.refl _ _).drew ?_
  simp only [List.take_succ_cons, List.take_zero, List.drop_succ_cons, List.drop_zero]
  repeat (go_big_quiet_step (first | (intro _; rfl)))
  refine wpQuiet_load_at rfl 25 (.tmp 0) rfl ⟨p, 0, none⟩ rfl (.pointer (some ⟨b, 0, none⟩)) H0.out ?_
  simp only [Act.put, List.setIfInBounds_toArray, List.set_cons_succ, List.set_cons_zero]
  repeat (go_big_quiet_step (first | (intro _; rfl)))
  refine wpQuiet_load_at rfl 59 (.tmp 6) rfl ⟨b, 1, none⟩ rfl (.map (some mb)) H2.out ?_
  simp only [Act.put, List.setIfInBounds_toArray, List.set_cons_succ, List.set_cons_zero]
  repeat (go_big_quiet_step (first | (intro _; rfl)))
  refine wpQuiet_load_at rfl 9 (.tmp 1) rfl ⟨q, 0, none⟩ rfl (.string f.nm) H1.out ?_
  simp only [Act.put, List.setIfInBounds_toArray, List.set_cons_succ, List.set_cons_zero]
  repeat (go_big_quiet_step (first | (intro _; rfl)))
  refine wpQuiet_nil ?_
  intro wz hz
  have hown2 := ownsMap_of Hown.out (hz.block mb Hm.out.lt)
  have Hown2 := Lib.hid hown2
  have Hz := Lib.hid hz
  clear hown2 hz
  go_wp2_with (first | (at_delete; refine wpList_delete_own _ rfl _ _ 59 9 rfl 64 key9 Try.underlying59 ptrR mb L.length D rfl Hown2.out _ _ rfl (keyS hx) ?_; intro w2 hown3 hturn))
  have hfin := drop_dev HD.out Hb.out Hm.out HDk.out Hsz.out Hown2.out hx Hz.out hown3 hturn hSm
  have Hfin := Lib.hid hfin
  have HK2 : ∀ k, k < w1.heap.size → k ≠ mb → w2.heap[k]? = w1.heap[k]? := fun k hk hne => (turned_other hturn (Nat.lt_of_lt_of_le hk Hz.out.size) hne).trans (Hz.out.block k hk)
  have hc0 := (HK2 p (lt_of_block Hb0.out) (Ne.symm Hno.out.1)).trans Hb0.out
  have hc2 := (HK2 p2 (lt_of_block Hb2.out) (Ne.symm Hno.out.2.1)).trans Hb2.out
  have hc3 := (HK2 q2 (lt_of_block Hb3.out) (Ne.symm Hno.out.2.2)).trans Hb3.out
  have hcb := (HK2 b (lt_of_block Hb.out) hbm).trans Hb.out
  have hmd := Lib.hid (MapOk.del Hown2.out HDk.out Hsz.out HD.out.nm hx hown3)
  have hff := Lib.hid ((HD.out.fo f hf).of_blocks (fun k hk => HK2 k ((HD.out.fo f hf).lt hk) (fun e => (H4.out f hf).2.1 (e ▸ hk))))
  obtain ⟨D2, hown4, hsz4, hD4⟩ := hmd.out.own
  have Hown4 := Lib.hid hown4
  have Hsz4 := Lib.hid hsz4
  have HD4 := Lib.hid (show DOk D2 (drp L f.nm) from hD4)
  have hdl : (drp L f.nm).length ≤ 1048576 := by
    have := List.length_filter_le (fun g : Fl => decide (g.nm ≠ f.nm)) L
    unfold drp; omega
  clear hfin hown3 hturn hown4 hsz4 hD4
  have H5 := Lib.hid (fun w9 (h9 : Below w2.heap.size w2 w9) => (by have e := (h9.cell (p := ⟨p, 0, none⟩) (lt_of_block hc0)).trans (block_cell hc0 0); simp [go_sem, e, hdV] : (loadVar 25 ⟨p, 0, none⟩).run Try.prog w9 = .ok (.pointer (some ⟨b, 0, none⟩)) w9))
  have H6 := Lib.hid (fun w9 (h9 : Below w2.heap.size w2 w9) => (by have e := (h9.cell (p := ⟨q2, 0, none⟩) (lt_of_block hc3)).trans (block_cell hc3 0); simp [go_sem, e, hdV] : (loadVar 9 ⟨q2, 0, none⟩).run Try.prog w9 = .ok (.string y) w9))
  have H7 := Lib.hid (fun w9 (h9 : Below w2.heap.size w2 w9) => (by have e := (h9.cell (p := ⟨b, 1, none⟩) (lt_of_block hcb)).trans (block_cell hcb 1); simp [go_sem, e, hdV] : (loadVar 59 ⟨b, 1, none⟩).run Try.prog w9 = .ok (.map (some mb)) w9))
  have H8 := Lib.hid (fun w9 (h9 : Below w2.heap.size w2 w9) => (by have e := (h9.cell (p := ⟨p2, 0, none⟩) (lt_of_block hc2)).trans (block_cell hc2 0); simp [go_sem, e, hdV] : (loadVar 64 ⟨p2, 0, none⟩).run Try.prog w9 = .ok (.pointer (some ⟨f.B, 0, none⟩)) w9))
  have Hcb := Lib.hid hcb
  clear hc0 hc2 hc3 hcb HK2
  go_wp2_with fail
  refine wp_region_class_tail (Below w2.heap.size w2) 6 (by kernel_rfl) (by kernel_rfl) (Below.refl _ _).drew ?_
  simp only [List.take_succ_cons, List.take_zero, List.drop_succ_cons, List.drop_zero]
  repeat (go_big_quiet_step (first | (intro _; rfl)))
  refine wpQuiet_load_at rfl 25 (.tmp 0) rfl ⟨p, 0, none⟩ rfl (.pointer (some ⟨b, 0, none⟩)) H5.out ?_
  simp only [Act.put, List.setIfInBounds_toArray, List.set_cons_succ, List.set_cons_zero]
  repeat (go_big_quiet_step (first | (intro _; rfl)))
  refine wpQuiet_load_at rfl 59 (.tmp 11) rfl ⟨b, 1, none⟩ rfl (.map (some mb)) H7.out ?_
  simp only [Act.put, List.setIfInBounds_toArray, List.set_cons_succ, List.set_cons_zero]
  repeat (go_big_quiet_step (first | (intro _; rfl)))
  refine wpQuiet_load_at rfl 9 (.tmp 3) rfl ⟨q2, 0, none⟩ rfl (.string y) H6.out ?_
  simp only [Act.put, List.setIfInBounds_toArray, List.set_cons_succ, List.set_cons_zero]
  repeat (go_big_quiet_step (first | (intro _; rfl)))
  refine wpQuiet_load_at rfl 64 (.tmp 2) rfl ⟨p2, 0, none⟩ rfl (.pointer (some ⟨f.B, 0, none⟩)) H8.out ?_
  simp only [Act.put, List.setIfInBounds_toArray, List.set_cons_succ, List.set_cons_zero]
  repeat (go_big_quiet_step (first | (intro _; rfl)))
  refine wpQuiet_nil ?_
  intro wy hy2
  have hown6 := ownsMap_of Hown4.out (hy2.block mb hmd.out.lt)
  have Hown6 := Lib.hid hown6
  have Hy := Lib.hid hy2
  have hkeyy := keyS (x := y) (by unfold maxLen; omega)
  have hroom : (drp L f.nm).length < maxLen := by unfold maxLen; omega
  clear hown6 hy2
  go_wp2_with (first | (at_mapUpdate; refine wpList_mapUpdate_in _ rfl _ _ _ 59 rfl 9 64 key9 Try.underlying59 ptrR mb (drp L f.nm).length D2 rfl Hown6.out hroom _ _ (keyL y) rfl rfl hkeyy (ptrD (some f.B)) [] (ptrR_v (some f.B)) ?_; intro w3 hown7 hturn2))
  have hsz3 : w3.heap.size = wy.heap.size := by
    obtain ⟨es, clock, es', clock', hb, rfl⟩ := hturn2
    simp [setBlock]
  have HK3 : ∀ k, k < w2.heap.size → k ≠ mb → w3.heap[k]? = w2.heap[k]? := fun k hk hne => (turned_other hturn2 (Nat.lt_of_lt_of_le hk Hy.out.size) hne).trans (Hy.out.block k hk)
  have hput := Lib.hid (MapOk.put (f' := renF f y) Hown6.out HD4.out Hsz4.out (by show y.size ≤ maxLen; unfold maxLen; omega) hown7)
  have hd3 : Dev S b h1 (upd (drp L f.nm) (renF f y)) w3 := Hfin.out.1.put hy ((hff.out.of_blocks (fun k hk => HK3 k (hff.out.lt hk) (fun e => (H4.out f hf).2.1 (e ▸ hk)))) |> fun h => ⟨h.box, h.row, h.le⟩) (fun mb2 hb9 => by
    have : mb2 = mb := by
      have h8 := hb9.symm.trans Hcb.out
      simp only [hdV, Option.some.injEq, Obj.cells.injEq, Array.mk.injEq, List.cons.injEq, Value.map.injEq] at h8
      exact h8.1.2.1
    subst this
    exact ⟨hput.out, fun k hk hne => HK3 k hk hne, (H4.out f hf).1, (H4.out f hf).2.1⟩) (H4.out f hf).2.2
    (fun g hg k hk => HD.out.ff f hf g (drp_mem.1 hg).1 (Ne.symm (drp_mem.1 hg).2) k hk) (fun k hk => HD.out.ss f hf k hk)
  have Hk3 : Hid (Kept S w1 w3) := Lib.hid (Hfin.out.2.1.trans' ⟨hturn2.grown.os.trans Hy.out.os, hturn2.grown.tape.trans Hy.out.tape, hturn2.grown.output.trans Hy.out.output, by rw [hsz3]; exact Hy.out.size, fun k hk hn => HK3 k hk (fun e => hn (e ▸ hSm))⟩)
  have Hd3 := Lib.hid hd3
  clear hown7 hturn2 hd3 HK3
  go_wp2_with fail
  exact bodyPost_end (v := .tuple #[]) (by simp [results, Try.results51]) rfl ⟨rfl, Hd3.out.mono (fun k hk => .inl hk), Hk3.out⟩
end Go.Proofs.Ytfmcemedaehcoaa
