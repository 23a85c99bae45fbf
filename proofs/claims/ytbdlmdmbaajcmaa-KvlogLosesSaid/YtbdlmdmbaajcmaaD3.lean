/- Walks: what the acts do: sync, cut, remove, rename; Walks: what the acts do: remove, rename; Walks: what the acts do: append. -/
import Derived.Test.YtbdlmdmbaajcmaaD2
import Derived.Test.YtbdlmdmbaajcmaaKw
namespace Go.Proofs.Ytbdlmdmbaajcmaa
set_option linter.unusedVariables false
set_option linter.unusedSimpArgs false
open Go.ChangeShapes Go.WideShapes Go.ChangeAt Go.RowKit

def syncF (f : Fl) : Fl := ⟨f.nm, f.B, f.v, f.d, f.d.length⟩
/-- A block of one cell, which no device has. -/
structure BoxV (S : Nat → Prop) (w : World) (p : Nat) (t : TypeId) (v : Value) : Prop where
  b : w.heap[p]? = some (.cells #[v] t (0, 0))
  s : ¬ S p
theorem BoxV.kept {S : Nat → Prop} {w w' : World} {p : Nat} {t : TypeId} {v : Value} (h : BoxV S w p t v) (hk : Kept S w w') : w'.heap[p]? = some (.cells #[v] t (0, 0)) := (hk.block p (lt_of_block h.b) h.s).trans h.b
theorem setF_write {S : Nat → Prop} {b : Nat} {h : Hd} {L : List Fl} {w wz w' : World} {f f' : Fl} (d : Dev S b h L w) (hf : f ∈ L) (hn : f'.nm = f.nm) (hB : f'.B = f.B) (ho : Fok w' f') (hz : Below w.heap.size w wz) (hs : wz.heap.size ≤ w'.heap.size) (h1 : w'.os = wz.os ∧ w'.tape = wz.tape ∧ w'.output = wz.output)
    (e : ∀ k, k < w.heap.size → k ∉ f.bl → w'.heap[k]? = wz.heap[k]?) (hv : ∀ g, f'.v.ownBlock = some g → f.v.ownBlock = some g) : Dev (Gr S w w') b h (upd L f') w' ∧ Kept S w w' :=
  ⟨d.setF hf hn hB ho (Nat.le_trans hz.size hs) (fun k hk hx => (e k hk hx).trans (hz.block k hk)) (fun g hg => .inl (hv g hg)),
    ⟨h1.1.trans hz.os, h1.2.1.trans hz.tape, h1.2.2.trans hz.output, Nat.le_trans hz.size hs, fun k hk hS => (e k hk (fun hx => hS (d.ss f hf k hx))).trans (hz.block k hk)⟩⟩
set_option maxRecDepth 100000 in
set_option maxHeartbeats 1000000 in
theorem sync1 {S : Nat → Prop} {b p : Nat} {L : List Fl} {w : World} {f : Fl} (hf : f ∈ L) (hp : BoxV S w p 84 (.pointer (some ⟨f.B, 0, none⟩))) : Does S b L (fun L2 => L2 = upd L (syncF f)) 67 #[.pointer (some ⟨p, 0, none⟩)] w := by
  intro w1 h1 d hK
  have hbp := hp.kept hK
  have hfo := d.fo f hf
  have hbf := hfo.box
  obtain ⟨pv, cv, hv⟩ := row_shape hfo
  rw [hv] at hbf
  have H0 := Lib.hid (fun w9 (h9 : Below w1.heap.size w1 w9) => (by have e := (h9.cell (p := ⟨p, 0, none⟩) (lt_of_block hbp)).trans (block_cell hbp 0); simp [go_sem, e] : (loadVar 84 ⟨p, 0, none⟩).run Try.prog w9 = .ok (.pointer (some ⟨f.B, 0, none⟩)) w9))
  have H1 := Lib.hid (fun w9 (h9 : Below w1.heap.size w1 w9) => (by have e := (h9.cell (p := ⟨f.B, 0, none⟩) (lt_of_block hbf)).trans (block_cell hbf 0); simp [go_sem, e] : (loadVar 40 ⟨f.B, 0, none⟩).run Try.prog w9 = .ok (.slice pv f.d.length cv) w9))
  have Hbf := Lib.hid hbf
  have HD := Lib.hid d
  have Hv := Lib.hid hv
  clear d hbp hfo hbf hv
  go_enter Try.func67, Try.ntmps67
  go_wp2_with fail
  refine wp_region_class_tail (Below w1.heap.size w1) 8 (by kernel_rfl) (by kernel_rfl) (Below.refl _ _).drew ?_
  simp only [List.take_succ_cons, List.take_zero, List.drop_succ_cons, List.drop_zero]
  repeat (go_big_quiet_step (first | (intro _; rfl)))
  refine wpQuiet_load_at rfl 84 (.tmp 0) rfl ⟨p, 0, none⟩ rfl (.pointer (some ⟨f.B, 0, none⟩)) H0.out ?_
  simp only [Act.put, List.setIfInBounds_toArray, List.set_cons_succ, List.set_cons_zero]
  repeat (go_big_quiet_step (first | (intro _; rfl)))
  refine wpQuiet_load_at rfl 84 (.tmp 0) rfl ⟨p, 0, none⟩ rfl (.pointer (some ⟨f.B, 0, none⟩)) H0.out ?_
  simp only [Act.put, List.setIfInBounds_toArray, List.set_cons_succ, List.set_cons_zero]
  repeat (go_big_quiet_step (first | (intro _; rfl)))
  refine wpQuiet_load_at rfl 40 (.tmp 4) rfl ⟨f.B, 0, none⟩ rfl (.slice pv f.d.length cv) H1.out ?_
  simp only [Act.put, List.setIfInBounds_toArray, List.set_cons_succ, List.set_cons_zero]
  repeat (go_big_quiet_step (first | (intro _; rfl)))
  refine wpQuiet_nil ?_
  intro wz hz
  have hb2 := (hz.block f.B (lt_of_block Hbf.out)).trans Hbf.out
  have c1 := block_cell hb2 1
  have f1 := block_free hb2 1
  have hfin := setF_write (w' := wz.setCell ⟨f.B, 1, none⟩ (.int .i64 (f.d.length : Nat))) (f' := syncF f) HD.out hf rfl rfl
    ⟨by have h := block_set (i := 1) (u := .int .i64 (f.d.length : Nat)) hb2; rw [← Hv.out] at h; exact h, own_of (HD.out.fo f hf).row (fun g hg => (set_other _ _ _ _ _ (fun e => by
      obtain ⟨mb, _, _, _, h4, _⟩ := HD.out.f
      exact (h4 f hf).2.2 (by rw [← e]; exact hg))).trans (hz.block g (own_lt0 (HD.out.fo f hf).row hg))), Nat.le_refl _⟩ hz (by simp [World.setCell]) ⟨rfl, rfl, rfl⟩ (fun k _ hk => set_other _ _ _ _ _ (fun e => hk (Fl.mem_bl.2 (.inl e)))) (fun g hg => hg)
  have Hfin := Lib.hid hfin
  clear hfin hz hb2
  go_wp2_with fail
  exact bodyPost_end (v := .tuple #[]) (by simp [results, Try.results67]) rfl ⟨rfl, _, rfl, Hfin.out.1, Hfin.out.2⟩

def cutF (n : Nat) (f : Fl) : Fl := ⟨f.nm, f.B, uptoV f.v (min n f.d.length), f.d.take (min n f.d.length), min f.s (min n f.d.length)⟩
set_option maxRecDepth 100000 in
set_option maxHeartbeats 2000000 in
theorem cut1 {S : Nat → Prop} {b p q : Nat} {L : List Fl} {w : World} {f : Fl} (n : Nat) (hn : n ≤ 9223372036854775807) (hf : f ∈ L) (hb : f.d.length ≤ 16777216) (hp : BoxV S w p 84 (.pointer (some ⟨f.B, 0, none⟩))) (hq : BoxV S w q 3 (.int .i64 (n : Nat))) : Does S b L (fun L2 => L2 = upd L (cutF n f)) 76 #[.pointer (some ⟨p, 0, none⟩), .pointer (some ⟨q, 0, none⟩)] w := by
  intro w1 h1 d hK
  have hbp := hp.kept hK
  have hbq := hq.kept hK
  have hfo := d.fo f hf
  have hbf := hfo.box
  have hle := hfo.le
  obtain ⟨pv, cv, hv⟩ := row_shape hfo
  rw [hv] at hbf
  have Hbp := Lib.hid hbp
  obtain ⟨m, hm⟩ : ∃ m, m = min n f.d.length := ⟨_, rfl⟩
  have hmle : m ≤ f.d.length := by omega
  obtain ⟨p1, c1, hsl, hrow1, hown1, hup⟩ := own_upto (n := m) hfo.row hmle
  rw [hv] at hsl
  have Hsl := Lib.hid hsl
  have Hrow1 := Lib.hid hrow1
  have Hown1 := Lib.hid hown1
  have Hup := Lib.hid hup
  have H0 := Lib.hid (fun w9 (h9 : Below w1.heap.size w1 w9) => (by have e := (h9.cell (p := ⟨p, 0, none⟩) (lt_of_block hbp)).trans (block_cell hbp 0); simp [go_sem, e] : (loadVar 84 ⟨p, 0, none⟩).run Try.prog w9 = .ok (.pointer (some ⟨f.B, 0, none⟩)) w9))
  have H2 := Lib.hid (fun w9 (h9 : Below w1.heap.size w1 w9) => (by have e := (h9.cell (p := ⟨q, 0, none⟩) (lt_of_block hbq)).trans (block_cell hbq 0); simp [go_sem, e] : (loadVar 3 ⟨q, 0, none⟩).run Try.prog w9 = .ok (.int .i64 (n : Nat)) w9))
  have H1 := Lib.hid (fun w9 (h9 : Below w1.heap.size w1 w9) => (by have e := (h9.cell (p := ⟨f.B, 0, none⟩) (lt_of_block hbf)).trans (block_cell hbf 0); simp [go_sem, e] : (loadVar 40 ⟨f.B, 0, none⟩).run Try.prog w9 = .ok (.slice pv f.d.length cv) w9))
  have Hbf := Lib.hid hbf
  have HD := Lib.hid d
  have Hv := Lib.hid hv
  have Hm := Lib.hid hm
  have hms : m = n ∨ (m = f.d.length ∧ ¬ n ≤ f.d.length) := by omega
  have Hp := Lib.hid hp
  have HpB : Hid (p ≠ f.B) := Lib.hid (fun e => hp.s (e ▸ d.ss f hf f.B (Fl.mem_bl.2 (.inl rfl)) |> fun h => hp.s (by rw [e]; exact d.ss f hf f.B (Fl.mem_bl.2 (.inl rfl))) |>.elim))
  clear d hbp hbq hfo hbf hv hsl hrow1 hown1 hup hm
  rcases hms with e | ⟨e, ne⟩
  · subst e
    have k1 : (m : Int) ≤ (f.d.length : Int) := by omega
    by_cases hs : f.s ≤ m
    · have k3 : (f.s : Int) ≤ (m : Int) := by omega
      go_enter Try.func76, Try.ntmps76
      go_wp2_with fail
      refine wp_region_class_tail (Below w1.heap.size w1) 15 (by kernel_rfl) (by kernel_rfl) (Below.refl _ _).drew ?_
      simp only [List.take_succ_cons, List.take_zero, List.drop_succ_cons, List.drop_zero]
      repeat (go_big_quiet_step (first | (intro _; rfl)))
      refine wpQuiet_load_at rfl 84 (.tmp 0) rfl ⟨p, 0, none⟩ rfl (.pointer (some ⟨f.B, 0, none⟩)) H0.out ?_
      simp only [Act.put, List.setIfInBounds_toArray, List.set_cons_succ, List.set_cons_zero]
      repeat (go_big_quiet_step (first | (intro _; rfl)))
      refine wpQuiet_load_at rfl 84 (.tmp 0) rfl ⟨p, 0, none⟩ rfl (.pointer (some ⟨f.B, 0, none⟩)) H0.out ?_
      simp only [Act.put, List.setIfInBounds_toArray, List.set_cons_succ, List.set_cons_zero]
      repeat (go_big_quiet_step (first | (intro _; rfl)))
      refine wpQuiet_load_at rfl 40 (.tmp 5) rfl ⟨f.B, 0, none⟩ rfl (.slice pv f.d.length cv) H1.out ?_
      simp only [Act.put, List.setIfInBounds_toArray, List.set_cons_succ, List.set_cons_zero]
      repeat (go_big_quiet_step (first | (intro _; rfl)))
      refine wpQuiet_load_at rfl 3 (.tmp 1) rfl ⟨q, 0, none⟩ rfl (.int .i64 (m : Nat)) H2.out ?_
      simp only [Act.put, List.setIfInBounds_toArray, List.set_cons_succ, List.set_cons_zero]
      repeat (go_big_quiet_step (first | (intro _; rfl)))
      refine wpQuiet_load_at rfl 84 (.tmp 0) rfl ⟨p, 0, none⟩ rfl (.pointer (some ⟨f.B, 0, none⟩)) H0.out ?_
      simp only [Act.put, List.setIfInBounds_toArray, List.set_cons_succ, List.set_cons_zero]
      repeat (go_big_quiet_step (first | (intro _; rfl)))
      refine wpQuiet_load_at rfl 40 (.tmp 10) rfl ⟨f.B, 0, none⟩ rfl (.slice pv f.d.length cv) H1.out ?_
      simp only [Act.put, List.setIfInBounds_toArray, List.set_cons_succ, List.set_cons_zero]
      repeat (go_big_quiet_step (first | (intro _; rfl)))
      refine wpQuiet_upto_at rfl 40 (.tmp 6) (.tmp 13) rfl (.slice pv f.d.length cv) (.int .i64 (m : Nat)) (.slice p1 (m) c1) rfl rfl Hsl.out ?_
      simp only [Act.put, List.setIfInBounds_toArray, List.set_cons_succ, List.set_cons_zero]
      repeat (go_big_quiet_step (first | (intro _; rfl)))
      refine wpQuiet_nil ?_
      intro wz hz
      have hb2 := (hz.block f.B (lt_of_block Hbf.out)).trans Hbf.out
      have c0 := block_cell hb2 0
      have f0 := block_free hb2 0
      have hb3 := block_set (i := 0) (u := .slice p1 (m) c1) hb2
      have hbp3 : (wz.setCell ⟨f.B, 0, none⟩ (.slice p1 (m) c1)).heap[p]? = some (.cells #[.pointer (some ⟨f.B, 0, none⟩)] 84 (0, 0)) := (set_other _ _ _ _ _ HpB.out).trans ((hz.block p (lt_of_block Hbp.out)).trans Hbp.out)
      have Hz := Lib.hid hz
      have hrw := own_of (w' := wz.setCell ⟨f.B, 0, none⟩ (.slice p1 (m) c1)) Hrow1.out (fun g hg => (set_other _ _ _ _ _ (fun e => by
        obtain ⟨mb, _, _, _, h4, _⟩ := HD.out.f
        exact (h4 f hf).2.2 (by rw [← e]; exact Hown1.out g hg))).trans (hz.block g (own_lt0 Hrow1.out hg)))
      have Hrw := Lib.hid hrw
      have Hsz : Hid ((wz.setCell ⟨f.B, 0, none⟩ (.slice p1 (m) c1)).heap.size = wz.heap.size) := Lib.hid (by simp [World.setCell])
      have Hoo := Lib.hid (show ∀ k, k ≠ f.B → (wz.setCell ⟨f.B, 0, none⟩ (.slice p1 (m) c1)).heap[k]? = wz.heap[k]? from fun k hk => set_other _ _ _ _ _ hk)
      clear hz hb2 hrw
      go_wp2_with fail
      have Hoos : Hid ((wz.setCell ⟨f.B, 0, none⟩ (.slice p1 (m) c1)).os = wz.os ∧ (wz.setCell ⟨f.B, 0, none⟩ (.slice p1 (m) c1)).tape = wz.tape ∧ (wz.setCell ⟨f.B, 0, none⟩ (.slice p1 (m) c1)).output = wz.output) := Lib.hid ⟨rfl, rfl, rfl⟩
      generalize hws : wz.setCell ⟨f.B, 0, none⟩ (.slice p1 (m) c1) = ws at *
      clear hws c0 f0
      have H3 := Lib.hid (fun w9 (h9 : Below ws.heap.size ws w9) => (by have e := (h9.cell (p := ⟨p, 0, none⟩) (lt_of_block hbp3)).trans (block_cell hbp3 0); simp [go_sem, e] : (loadVar 84 ⟨p, 0, none⟩).run Try.prog w9 = .ok (.pointer (some ⟨f.B, 0, none⟩)) w9))
      have H4 := Lib.hid (fun w9 (h9 : Below ws.heap.size ws w9) => (by have e := (h9.cell (p := ⟨f.B, 0, none⟩) (lt_of_block hb3)).trans (block_cell hb3 0); simp [go_sem, e] : (loadVar 40 ⟨f.B, 0, none⟩).run Try.prog w9 = .ok (.slice p1 (m) c1) w9))
      have H5 := Lib.hid (fun w9 (h9 : Below ws.heap.size ws w9) => (by have e := (h9.cell (p := ⟨f.B, 1, none⟩) (lt_of_block hb3)).trans (block_cell hb3 1); simp [go_sem, e] : (loadVar 3 ⟨f.B, 1, none⟩).run Try.prog w9 = .ok (.int .i64 (f.s : Nat)) w9))
      have Hb3 := Lib.hid hb3
      clear hbp3 hb3
      refine wp_region_class_tail (Below ws.heap.size ws) 13 (by kernel_rfl) (by kernel_rfl) (Below.refl _ _).drew ?_
      simp only [List.take_succ_cons, List.take_zero, List.drop_succ_cons, List.drop_zero]
      repeat (go_big_quiet_step (first | (intro _; rfl)))
      refine wpQuiet_load_at rfl 84 (.tmp 0) rfl ⟨p, 0, none⟩ rfl (.pointer (some ⟨f.B, 0, none⟩)) H3.out ?_
      simp only [Act.put, List.setIfInBounds_toArray, List.set_cons_succ, List.set_cons_zero]
      repeat (go_big_quiet_step (first | (intro _; rfl)))
      refine wpQuiet_load_at rfl 84 (.tmp 0) rfl ⟨p, 0, none⟩ rfl (.pointer (some ⟨f.B, 0, none⟩)) H3.out ?_
      simp only [Act.put, List.setIfInBounds_toArray, List.set_cons_succ, List.set_cons_zero]
      repeat (go_big_quiet_step (first | (intro _; rfl)))
      refine wpQuiet_load_at rfl 3 (.tmp 20) rfl ⟨f.B, 1, none⟩ rfl (.int .i64 (f.s : Nat)) H5.out ?_
      simp only [Act.put, List.setIfInBounds_toArray, List.set_cons_succ, List.set_cons_zero]
      repeat (go_big_quiet_step (first | (intro _; rfl)))
      refine wpQuiet_load_at rfl 84 (.tmp 0) rfl ⟨p, 0, none⟩ rfl (.pointer (some ⟨f.B, 0, none⟩)) H3.out ?_
      simp only [Act.put, List.setIfInBounds_toArray, List.set_cons_succ, List.set_cons_zero]
      repeat (go_big_quiet_step (first | (intro _; rfl)))
      refine wpQuiet_load_at rfl 40 (.tmp 24) rfl ⟨f.B, 0, none⟩ rfl (.slice p1 (m) c1) H4.out ?_
      simp only [Act.put, List.setIfInBounds_toArray, List.set_cons_succ, List.set_cons_zero]
      repeat (go_big_quiet_step (first | (intro _; rfl)))
      refine wpQuiet_nil ?_
      intro wy hy
      have hb5 := (hy.block f.B (lt_of_block Hb3.out)).trans Hb3.out
      have d1 := block_cell hb5 1
      have g1 := block_free hb5 1
      have hlen : (f.d.take (m)).length = m := by rw [List.length_take]; omega
      have hmm : min m f.d.length = m := by have := Hm.out; omega
      have hss : min f.s (m) = f.s := by omega
      have hcf : cutF m f = ⟨f.nm, f.B, .slice p1 (m) c1, f.d.take (m), f.s⟩ := by unfold cutF; rw [hmm, hss, Hup.out]
      have hrow5 := own_of (w' := wy.setCell ⟨f.B, 1, none⟩ (.int .i64 (f.s : Nat))) Hrw.out (fun g hg => (set_other _ _ _ _ _ (fun e => by
        obtain ⟨mb, _, _, _, h4, _⟩ := HD.out.f
        exact (h4 f hf).2.2 (by rw [← e]; exact Hown1.out g hg))).trans (hy.block g (own_lt0 Hrw.out hg)))
      have hfin := setF_write (wz := wz) (w' := wy.setCell ⟨f.B, 1, none⟩ (.int .i64 (f.s : Nat))) (f' := cutF m f) HD.out hf rfl rfl
        ⟨by rw [hcf]; exact block_set (i := 1) (u := .int .i64 (f.s : Nat)) hb5, by rw [hcf]; show World.ownsRow _ 0 5 1 (.slice p1 (m) c1) (f.d.take (m)).length _; rw [hlen]; exact hrow5, by rw [hcf]; show f.s ≤ (f.d.take (m)).length; omega⟩ Hz.out (by have h1 := hy.size; have h2 := Hsz.out; simp [World.setCell]; omega)
        ⟨hy.os.trans Hoos.out.1, hy.tape.trans Hoos.out.2.1, hy.output.trans Hoos.out.2.2⟩ (fun k hkl hk => by
          have hkB : k ≠ f.B := fun e => hk (Fl.mem_bl.2 (.inl e))
          rw [set_other _ _ _ _ _ hkB]
          exact (hy.block k (by have h2 := Hsz.out; have h3 := Hz.out.size; omega)).trans (Hoo.out k hkB)) (fun g hg => Hown1.out g (by rw [hcf] at hg; exact hg))
      have Hfin := Lib.hid hfin
      clear hfin hy hb5 hrow5
      go_wp2_with fail
      exact bodyPost_end (v := .tuple #[]) (by simp [results, Try.results76]) rfl ⟨rfl, _, rfl, Hfin.out.1, Hfin.out.2⟩
    · have k3 : ¬ (f.s : Int) ≤ (m : Int) := by omega
      have k4 : (m : Int) ≤ (f.s : Int) := by omega
      go_enter Try.func76, Try.ntmps76
      go_wp2_with fail
      refine wp_region_class_tail (Below w1.heap.size w1) 15 (by kernel_rfl) (by kernel_rfl) (Below.refl _ _).drew ?_
      simp only [List.take_succ_cons, List.take_zero, List.drop_succ_cons, List.drop_zero]
      repeat (go_big_quiet_step (first | (intro _; rfl)))
      refine wpQuiet_load_at rfl 84 (.tmp 0) rfl ⟨p, 0, none⟩ rfl (.pointer (some ⟨f.B, 0, none⟩)) H0.out ?_
      simp only [Act.put, List.setIfInBounds_toArray, List.set_cons_succ, List.set_cons_zero]
      repeat (go_big_quiet_step (first | (intro _; rfl)))
      refine wpQuiet_load_at rfl 84 (.tmp 0) rfl ⟨p, 0, none⟩ rfl (.pointer (some ⟨f.B, 0, none⟩)) H0.out ?_
      simp only [Act.put, List.setIfInBounds_toArray, List.set_cons_succ, List.set_cons_zero]
      repeat (go_big_quiet_step (first | (intro _; rfl)))
      refine wpQuiet_load_at rfl 40 (.tmp 5) rfl ⟨f.B, 0, none⟩ rfl (.slice pv f.d.length cv) H1.out ?_
      simp only [Act.put, List.setIfInBounds_toArray, List.set_cons_succ, List.set_cons_zero]
      repeat (go_big_quiet_step (first | (intro _; rfl)))
      refine wpQuiet_load_at rfl 3 (.tmp 1) rfl ⟨q, 0, none⟩ rfl (.int .i64 (m : Nat)) H2.out ?_
      simp only [Act.put, List.setIfInBounds_toArray, List.set_cons_succ, List.set_cons_zero]
      repeat (go_big_quiet_step (first | (intro _; rfl)))
      refine wpQuiet_load_at rfl 84 (.tmp 0) rfl ⟨p, 0, none⟩ rfl (.pointer (some ⟨f.B, 0, none⟩)) H0.out ?_
      simp only [Act.put, List.setIfInBounds_toArray, List.set_cons_succ, List.set_cons_zero]
      repeat (go_big_quiet_step (first | (intro _; rfl)))
      refine wpQuiet_load_at rfl 40 (.tmp 10) rfl ⟨f.B, 0, none⟩ rfl (.slice pv f.d.length cv) H1.out ?_
      simp only [Act.put, List.setIfInBounds_toArray, List.set_cons_succ, List.set_cons_zero]
      repeat (go_big_quiet_step (first | (intro _; rfl)))
      refine wpQuiet_upto_at rfl 40 (.tmp 6) (.tmp 13) rfl (.slice pv f.d.length cv) (.int .i64 (m : Nat)) (.slice p1 (m) c1) rfl rfl Hsl.out ?_
      simp only [Act.put, List.setIfInBounds_toArray, List.set_cons_succ, List.set_cons_zero]
      repeat (go_big_quiet_step (first | (intro _; rfl)))
      refine wpQuiet_nil ?_
      intro wz hz
      have hb2 := (hz.block f.B (lt_of_block Hbf.out)).trans Hbf.out
      have c0 := block_cell hb2 0
      have f0 := block_free hb2 0
      have hb3 := block_set (i := 0) (u := .slice p1 (m) c1) hb2
      have hbp3 : (wz.setCell ⟨f.B, 0, none⟩ (.slice p1 (m) c1)).heap[p]? = some (.cells #[.pointer (some ⟨f.B, 0, none⟩)] 84 (0, 0)) := (set_other _ _ _ _ _ HpB.out).trans ((hz.block p (lt_of_block Hbp.out)).trans Hbp.out)
      have Hz := Lib.hid hz
      have hrw := own_of (w' := wz.setCell ⟨f.B, 0, none⟩ (.slice p1 (m) c1)) Hrow1.out (fun g hg => (set_other _ _ _ _ _ (fun e => by
        obtain ⟨mb, _, _, _, h4, _⟩ := HD.out.f
        exact (h4 f hf).2.2 (by rw [← e]; exact Hown1.out g hg))).trans (hz.block g (own_lt0 Hrow1.out hg)))
      have Hrw := Lib.hid hrw
      have Hsz : Hid ((wz.setCell ⟨f.B, 0, none⟩ (.slice p1 (m) c1)).heap.size = wz.heap.size) := Lib.hid (by simp [World.setCell])
      have Hoo := Lib.hid (show ∀ k, k ≠ f.B → (wz.setCell ⟨f.B, 0, none⟩ (.slice p1 (m) c1)).heap[k]? = wz.heap[k]? from fun k hk => set_other _ _ _ _ _ hk)
      clear hz hb2 hrw
      go_wp2_with fail
      have Hoos : Hid ((wz.setCell ⟨f.B, 0, none⟩ (.slice p1 (m) c1)).os = wz.os ∧ (wz.setCell ⟨f.B, 0, none⟩ (.slice p1 (m) c1)).tape = wz.tape ∧ (wz.setCell ⟨f.B, 0, none⟩ (.slice p1 (m) c1)).output = wz.output) := Lib.hid ⟨rfl, rfl, rfl⟩
      generalize hws : wz.setCell ⟨f.B, 0, none⟩ (.slice p1 (m) c1) = ws at *
      clear hws c0 f0
      have H3 := Lib.hid (fun w9 (h9 : Below ws.heap.size ws w9) => (by have e := (h9.cell (p := ⟨p, 0, none⟩) (lt_of_block hbp3)).trans (block_cell hbp3 0); simp [go_sem, e] : (loadVar 84 ⟨p, 0, none⟩).run Try.prog w9 = .ok (.pointer (some ⟨f.B, 0, none⟩)) w9))
      have H4 := Lib.hid (fun w9 (h9 : Below ws.heap.size ws w9) => (by have e := (h9.cell (p := ⟨f.B, 0, none⟩) (lt_of_block hb3)).trans (block_cell hb3 0); simp [go_sem, e] : (loadVar 40 ⟨f.B, 0, none⟩).run Try.prog w9 = .ok (.slice p1 (m) c1) w9))
      have H5 := Lib.hid (fun w9 (h9 : Below ws.heap.size ws w9) => (by have e := (h9.cell (p := ⟨f.B, 1, none⟩) (lt_of_block hb3)).trans (block_cell hb3 1); simp [go_sem, e] : (loadVar 3 ⟨f.B, 1, none⟩).run Try.prog w9 = .ok (.int .i64 (f.s : Nat)) w9))
      have Hb3 := Lib.hid hb3
      clear hbp3 hb3
      refine wp_region_class_tail (Below ws.heap.size ws) 13 (by kernel_rfl) (by kernel_rfl) (Below.refl _ _).drew ?_
      simp only [List.take_succ_cons, List.take_zero, List.drop_succ_cons, List.drop_zero]
      repeat (go_big_quiet_step (first | (intro _; rfl)))
      refine wpQuiet_load_at rfl 84 (.tmp 0) rfl ⟨p, 0, none⟩ rfl (.pointer (some ⟨f.B, 0, none⟩)) H3.out ?_
      simp only [Act.put, List.setIfInBounds_toArray, List.set_cons_succ, List.set_cons_zero]
      repeat (go_big_quiet_step (first | (intro _; rfl)))
      refine wpQuiet_load_at rfl 84 (.tmp 0) rfl ⟨p, 0, none⟩ rfl (.pointer (some ⟨f.B, 0, none⟩)) H3.out ?_
      simp only [Act.put, List.setIfInBounds_toArray, List.set_cons_succ, List.set_cons_zero]
      repeat (go_big_quiet_step (first | (intro _; rfl)))
      refine wpQuiet_load_at rfl 3 (.tmp 20) rfl ⟨f.B, 1, none⟩ rfl (.int .i64 (f.s : Nat)) H5.out ?_
      simp only [Act.put, List.setIfInBounds_toArray, List.set_cons_succ, List.set_cons_zero]
      repeat (go_big_quiet_step (first | (intro _; rfl)))
      refine wpQuiet_load_at rfl 84 (.tmp 0) rfl ⟨p, 0, none⟩ rfl (.pointer (some ⟨f.B, 0, none⟩)) H3.out ?_
      simp only [Act.put, List.setIfInBounds_toArray, List.set_cons_succ, List.set_cons_zero]
      repeat (go_big_quiet_step (first | (intro _; rfl)))
      refine wpQuiet_load_at rfl 40 (.tmp 24) rfl ⟨f.B, 0, none⟩ rfl (.slice p1 (m) c1) H4.out ?_
      simp only [Act.put, List.setIfInBounds_toArray, List.set_cons_succ, List.set_cons_zero]
      repeat (go_big_quiet_step (first | (intro _; rfl)))
      refine wpQuiet_nil ?_
      intro wy hy
      have hb5 := (hy.block f.B (lt_of_block Hb3.out)).trans Hb3.out
      have d1 := block_cell hb5 1
      have g1 := block_free hb5 1
      have hlen : (f.d.take (m)).length = m := by rw [List.length_take]; omega
      have hmm : min m f.d.length = m := by have := Hm.out; omega
      have hss : min f.s (m) = m := by omega
      have hcf : cutF m f = ⟨f.nm, f.B, .slice p1 (m) c1, f.d.take (m), m⟩ := by unfold cutF; rw [hmm, hss, Hup.out]
      have hrow5 := own_of (w' := wy.setCell ⟨f.B, 1, none⟩ (.int .i64 (m : Nat))) Hrw.out (fun g hg => (set_other _ _ _ _ _ (fun e => by
        obtain ⟨mb, _, _, _, h4, _⟩ := HD.out.f
        exact (h4 f hf).2.2 (by rw [← e]; exact Hown1.out g hg))).trans (hy.block g (own_lt0 Hrw.out hg)))
      have hfin := setF_write (wz := wz) (w' := wy.setCell ⟨f.B, 1, none⟩ (.int .i64 (m : Nat))) (f' := cutF m f) HD.out hf rfl rfl
        ⟨by rw [hcf]; exact block_set (i := 1) (u := .int .i64 (m : Nat)) hb5, by rw [hcf]; show World.ownsRow _ 0 5 1 (.slice p1 (m) c1) (f.d.take (m)).length _; rw [hlen]; exact hrow5, by rw [hcf]; show m ≤ (f.d.take (m)).length; omega⟩ Hz.out (by have h1 := hy.size; have h2 := Hsz.out; simp [World.setCell]; omega)
        ⟨hy.os.trans Hoos.out.1, hy.tape.trans Hoos.out.2.1, hy.output.trans Hoos.out.2.2⟩ (fun k hkl hk => by
          have hkB : k ≠ f.B := fun e => hk (Fl.mem_bl.2 (.inl e))
          rw [set_other _ _ _ _ _ hkB]
          exact (hy.block k (by have h2 := Hsz.out; have h3 := Hz.out.size; omega)).trans (Hoo.out k hkB)) (fun g hg => Hown1.out g (by rw [hcf] at hg; exact hg))
      have Hfin := Lib.hid hfin
      clear hfin hy hb5 hrow5
      go_wp2_with fail
      exact bodyPost_end (v := .tuple #[]) (by simp [results, Try.results76]) rfl ⟨rfl, _, rfl, Hfin.out.1, Hfin.out.2⟩
  · have k1 : (f.d.length : Int) ≤ (n : Int) := by omega
    have k2 : ¬ (n : Int) ≤ (f.d.length : Int) := by omega
    have Hsl2 := Lib.hid (show ∀ w1, (Instr.sliceAt 40 (.slice pv f.d.length cv) none (some (.int .i64 (f.d.length : Nat))) none).run Try.prog w1 = .ok (.slice p1 m c1) w1 from fun w1 => by have h := Hsl.out w1; rw [show ((m : Nat) : Int) = ((f.d.length : Nat) : Int) from congrArg _ e] at h; exact h)
    have He := Lib.hid e
    clear e ne
    by_cases hs : f.s ≤ m
    · have k3 : (f.s : Int) ≤ (m : Int) := by omega
      go_enter Try.func76, Try.ntmps76
      go_wp2_with fail
      refine wp_region_class_tail (Below w1.heap.size w1) 15 (by kernel_rfl) (by kernel_rfl) (Below.refl _ _).drew ?_
      simp only [List.take_succ_cons, List.take_zero, List.drop_succ_cons, List.drop_zero]
      repeat (go_big_quiet_step (first | (intro _; rfl)))
      refine wpQuiet_load_at rfl 84 (.tmp 0) rfl ⟨p, 0, none⟩ rfl (.pointer (some ⟨f.B, 0, none⟩)) H0.out ?_
      simp only [Act.put, List.setIfInBounds_toArray, List.set_cons_succ, List.set_cons_zero]
      repeat (go_big_quiet_step (first | (intro _; rfl)))
      refine wpQuiet_load_at rfl 84 (.tmp 0) rfl ⟨p, 0, none⟩ rfl (.pointer (some ⟨f.B, 0, none⟩)) H0.out ?_
      simp only [Act.put, List.setIfInBounds_toArray, List.set_cons_succ, List.set_cons_zero]
      repeat (go_big_quiet_step (first | (intro _; rfl)))
      refine wpQuiet_load_at rfl 40 (.tmp 5) rfl ⟨f.B, 0, none⟩ rfl (.slice pv f.d.length cv) H1.out ?_
      simp only [Act.put, List.setIfInBounds_toArray, List.set_cons_succ, List.set_cons_zero]
      repeat (go_big_quiet_step (first | (intro _; rfl)))
      refine wpQuiet_load_at rfl 3 (.tmp 1) rfl ⟨q, 0, none⟩ rfl (.int .i64 (n : Nat)) H2.out ?_
      simp only [Act.put, List.setIfInBounds_toArray, List.set_cons_succ, List.set_cons_zero]
      repeat (go_big_quiet_step (first | (intro _; rfl)))
      refine wpQuiet_load_at rfl 84 (.tmp 0) rfl ⟨p, 0, none⟩ rfl (.pointer (some ⟨f.B, 0, none⟩)) H0.out ?_
      simp only [Act.put, List.setIfInBounds_toArray, List.set_cons_succ, List.set_cons_zero]
      repeat (go_big_quiet_step (first | (intro _; rfl)))
      refine wpQuiet_load_at rfl 40 (.tmp 10) rfl ⟨f.B, 0, none⟩ rfl (.slice pv f.d.length cv) H1.out ?_
      simp only [Act.put, List.setIfInBounds_toArray, List.set_cons_succ, List.set_cons_zero]
      repeat (go_big_quiet_step (first | (intro _; rfl)))
      refine wpQuiet_upto_at rfl 40 (.tmp 6) (.tmp 13) rfl (.slice pv f.d.length cv) (.int .i64 (f.d.length : Nat)) (.slice p1 (m) c1) rfl rfl Hsl2.out ?_
      simp only [Act.put, List.setIfInBounds_toArray, List.set_cons_succ, List.set_cons_zero]
      repeat (go_big_quiet_step (first | (intro _; rfl)))
      refine wpQuiet_nil ?_
      intro wz hz
      have hb2 := (hz.block f.B (lt_of_block Hbf.out)).trans Hbf.out
      have c0 := block_cell hb2 0
      have f0 := block_free hb2 0
      have hb3 := block_set (i := 0) (u := .slice p1 (m) c1) hb2
      have hbp3 : (wz.setCell ⟨f.B, 0, none⟩ (.slice p1 (m) c1)).heap[p]? = some (.cells #[.pointer (some ⟨f.B, 0, none⟩)] 84 (0, 0)) := (set_other _ _ _ _ _ HpB.out).trans ((hz.block p (lt_of_block Hbp.out)).trans Hbp.out)
      have Hz := Lib.hid hz
      have hrw := own_of (w' := wz.setCell ⟨f.B, 0, none⟩ (.slice p1 (m) c1)) Hrow1.out (fun g hg => (set_other _ _ _ _ _ (fun e => by
        obtain ⟨mb, _, _, _, h4, _⟩ := HD.out.f
        exact (h4 f hf).2.2 (by rw [← e]; exact Hown1.out g hg))).trans (hz.block g (own_lt0 Hrow1.out hg)))
      have Hrw := Lib.hid hrw
      have Hsz : Hid ((wz.setCell ⟨f.B, 0, none⟩ (.slice p1 (m) c1)).heap.size = wz.heap.size) := Lib.hid (by simp [World.setCell])
      have Hoo := Lib.hid (show ∀ k, k ≠ f.B → (wz.setCell ⟨f.B, 0, none⟩ (.slice p1 (m) c1)).heap[k]? = wz.heap[k]? from fun k hk => set_other _ _ _ _ _ hk)
      clear hz hb2 hrw
      go_wp2_with fail
      have Hoos : Hid ((wz.setCell ⟨f.B, 0, none⟩ (.slice p1 (m) c1)).os = wz.os ∧ (wz.setCell ⟨f.B, 0, none⟩ (.slice p1 (m) c1)).tape = wz.tape ∧ (wz.setCell ⟨f.B, 0, none⟩ (.slice p1 (m) c1)).output = wz.output) := Lib.hid ⟨rfl, rfl, rfl⟩
      generalize hws : wz.setCell ⟨f.B, 0, none⟩ (.slice p1 (m) c1) = ws at *
      clear hws c0 f0
      have H3 := Lib.hid (fun w9 (h9 : Below ws.heap.size ws w9) => (by have e := (h9.cell (p := ⟨p, 0, none⟩) (lt_of_block hbp3)).trans (block_cell hbp3 0); simp [go_sem, e] : (loadVar 84 ⟨p, 0, none⟩).run Try.prog w9 = .ok (.pointer (some ⟨f.B, 0, none⟩)) w9))
      have H4 := Lib.hid (fun w9 (h9 : Below ws.heap.size ws w9) => (by have e := (h9.cell (p := ⟨f.B, 0, none⟩) (lt_of_block hb3)).trans (block_cell hb3 0); simp [go_sem, e] : (loadVar 40 ⟨f.B, 0, none⟩).run Try.prog w9 = .ok (.slice p1 (m) c1) w9))
      have H5 := Lib.hid (fun w9 (h9 : Below ws.heap.size ws w9) => (by have e := (h9.cell (p := ⟨f.B, 1, none⟩) (lt_of_block hb3)).trans (block_cell hb3 1); simp [go_sem, e] : (loadVar 3 ⟨f.B, 1, none⟩).run Try.prog w9 = .ok (.int .i64 (f.s : Nat)) w9))
      have Hb3 := Lib.hid hb3
      clear hbp3 hb3
      refine wp_region_class_tail (Below ws.heap.size ws) 13 (by kernel_rfl) (by kernel_rfl) (Below.refl _ _).drew ?_
      simp only [List.take_succ_cons, List.take_zero, List.drop_succ_cons, List.drop_zero]
      repeat (go_big_quiet_step (first | (intro _; rfl)))
      refine wpQuiet_load_at rfl 84 (.tmp 0) rfl ⟨p, 0, none⟩ rfl (.pointer (some ⟨f.B, 0, none⟩)) H3.out ?_
      simp only [Act.put, List.setIfInBounds_toArray, List.set_cons_succ, List.set_cons_zero]
      repeat (go_big_quiet_step (first | (intro _; rfl)))
      refine wpQuiet_load_at rfl 84 (.tmp 0) rfl ⟨p, 0, none⟩ rfl (.pointer (some ⟨f.B, 0, none⟩)) H3.out ?_
      simp only [Act.put, List.setIfInBounds_toArray, List.set_cons_succ, List.set_cons_zero]
      repeat (go_big_quiet_step (first | (intro _; rfl)))
      refine wpQuiet_load_at rfl 3 (.tmp 20) rfl ⟨f.B, 1, none⟩ rfl (.int .i64 (f.s : Nat)) H5.out ?_
      simp only [Act.put, List.setIfInBounds_toArray, List.set_cons_succ, List.set_cons_zero]
      repeat (go_big_quiet_step (first | (intro _; rfl)))
      refine wpQuiet_load_at rfl 84 (.tmp 0) rfl ⟨p, 0, none⟩ rfl (.pointer (some ⟨f.B, 0, none⟩)) H3.out ?_
      simp only [Act.put, List.setIfInBounds_toArray, List.set_cons_succ, List.set_cons_zero]
      repeat (go_big_quiet_step (first | (intro _; rfl)))
      refine wpQuiet_load_at rfl 40 (.tmp 24) rfl ⟨f.B, 0, none⟩ rfl (.slice p1 (m) c1) H4.out ?_
      simp only [Act.put, List.setIfInBounds_toArray, List.set_cons_succ, List.set_cons_zero]
      repeat (go_big_quiet_step (first | (intro _; rfl)))
      refine wpQuiet_nil ?_
      intro wy hy
      have hb5 := (hy.block f.B (lt_of_block Hb3.out)).trans Hb3.out
      have d1 := block_cell hb5 1
      have g1 := block_free hb5 1
      have hlen : (f.d.take (m)).length = m := by rw [List.length_take]; omega
      have hmm : min n f.d.length = m := by have := Hm.out; omega
      have hss : min f.s (m) = f.s := by omega
      have hcf : cutF n f = ⟨f.nm, f.B, .slice p1 (m) c1, f.d.take (m), f.s⟩ := by unfold cutF; rw [hmm, hss, Hup.out]
      have hrow5 := own_of (w' := wy.setCell ⟨f.B, 1, none⟩ (.int .i64 (f.s : Nat))) Hrw.out (fun g hg => (set_other _ _ _ _ _ (fun e => by
        obtain ⟨mb, _, _, _, h4, _⟩ := HD.out.f
        exact (h4 f hf).2.2 (by rw [← e]; exact Hown1.out g hg))).trans (hy.block g (own_lt0 Hrw.out hg)))
      have hfin := setF_write (wz := wz) (w' := wy.setCell ⟨f.B, 1, none⟩ (.int .i64 (f.s : Nat))) (f' := cutF n f) HD.out hf rfl rfl
        ⟨by rw [hcf]; exact block_set (i := 1) (u := .int .i64 (f.s : Nat)) hb5, by rw [hcf]; show World.ownsRow _ 0 5 1 (.slice p1 (m) c1) (f.d.take (m)).length _; rw [hlen]; exact hrow5, by rw [hcf]; show f.s ≤ (f.d.take (m)).length; omega⟩ Hz.out (by have h1 := hy.size; have h2 := Hsz.out; simp [World.setCell]; omega)
        ⟨hy.os.trans Hoos.out.1, hy.tape.trans Hoos.out.2.1, hy.output.trans Hoos.out.2.2⟩ (fun k hkl hk => by
          have hkB : k ≠ f.B := fun e => hk (Fl.mem_bl.2 (.inl e))
          rw [set_other _ _ _ _ _ hkB]
          exact (hy.block k (by have h2 := Hsz.out; have h3 := Hz.out.size; omega)).trans (Hoo.out k hkB)) (fun g hg => Hown1.out g (by rw [hcf] at hg; exact hg))
      have Hfin := Lib.hid hfin
      clear hfin hy hb5 hrow5
      go_wp2_with fail
      exact bodyPost_end (v := .tuple #[]) (by simp [results, Try.results76]) rfl ⟨rfl, _, rfl, Hfin.out.1, Hfin.out.2⟩
    · have k3 : ¬ (f.s : Int) ≤ (m : Int) := by omega
      have k4 : (m : Int) ≤ (f.s : Int) := by omega
      exact absurd hle (by have := He.out; omega)
end Go.Proofs.Ytbdlmdmbaajcmaa
namespace Go.Proofs.Ytbdlmdmbaajcmaa
set_option linter.unusedVariables false
set_option linter.unusedSimpArgs false
open Go.ChangeShapes Go.WideShapes Go.ChangeAt Go.RowKit Go.ChangeMaps

theorem Dev.name_le {S : Nat → Prop} {b : Nat} {h : Hd} {L : List Fl} {w : World} (d : Dev S b h L w) {f : Fl} (hf : f ∈ L) : f.nm.size ≤ maxLen := by have := d.n32 f hf; unfold maxLen; omega
/-- The map's block written, nothing else. -/
theorem turned_other {w w' : World} {mb k : Nat} (h : w.mapTurned w' mb) (hk : k < w.heap.size) (hne : k ≠ mb) : w'.heap[k]? = w.heap[k]? := h.grown.block k hk (fun e => hne (by injection e))
theorem drop_dev {S : Nat → Prop} {b mb : Nat} {h : Hd} {L : List Fl} {w wz w' : World} {x : ByteArray} {D : DataW Unit} (d : Dev S b h L w) (hb : w.heap[b]? = some (.cells (hdV h mb) 72 (0, 0))) (hm : MapOk mb L w) (hD : DOk D L) (hs : Maps.size D = L.length) (hown : wz.ownsMap Try.prog 9 ptrR mb L.length D) (hx : x.size ≤ maxLen)
    (hz : Below w.heap.size w wz) (h' : w'.ownsMap Try.prog 9 ptrR mb L.length (D.del (keyL x))) (ht : wz.mapTurned w' mb) (hS : S mb) : Dev S b h (drp L x) w' ∧ Kept S w w' ∧ w'.heap.size = wz.heap.size := by
  have hsz : w'.heap.size = wz.heap.size := by
    obtain ⟨es, clock, es', clock', hb, rfl⟩ := ht
    simp [setBlock]
  refine ⟨d.drop (fun mb2 hb2 => ?_), ⟨ht.grown.os.trans hz.os, ht.grown.tape.trans hz.tape, ht.grown.output.trans hz.output, by rw [hsz]; exact hz.size, fun k hk hn => (turned_other ht (Nat.lt_of_lt_of_le hk hz.size) (fun e => hn (e ▸ hS))).trans (hz.block k hk)⟩, hsz⟩
  have : mb2 = mb := by
    have h8 := hb2.symm.trans hb
    simp only [hdV, Option.some.injEq, Obj.cells.injEq, Array.mk.injEq, List.cons.injEq, Value.map.injEq] at h8
    exact h8.1.2.1
  subst this
  exact ⟨MapOk.del hown hD hs d.nm hx h', fun k hk hne => (turned_other ht (Nat.lt_of_lt_of_le hk hz.size) hne).trans (hz.block k hk)⟩
set_option maxRecDepth 100000 in
set_option maxHeartbeats 1000000 in
theorem remove1 {S : Nat → Prop} {b p q : Nat} {L : List Fl} {w : World} {x : ByteArray} (hx : x.size ≤ maxLen) (hp : BoxV S w p 25 (.pointer (some ⟨b, 0, none⟩))) (hq : BoxV S w q 9 (.string x)) : Does S b L (fun L2 => L2 = drp L x) 56 #[.pointer (some ⟨p, 0, none⟩), .pointer (some ⟨q, 0, none⟩)] w := by
  intro w1 h1 d hK
  have hb0 := hp.kept hK
  have hb1 := hq.kept hK
  obtain ⟨mb, hb, hm, hbm, h4, hSb, hSm⟩ := d.f
  obtain ⟨D, hown, hsz, hD⟩ := hm.own
  have H0 := Lib.hid (fun w9 (h9 : Below w1.heap.size w1 w9) => (by have e := (h9.cell (p := ⟨p, 0, none⟩) (lt_of_block hb0)).trans (block_cell hb0 0); simp [go_sem, e, hdV] : (loadVar 25 ⟨p, 0, none⟩).run Try.prog w9 = .ok (.pointer (some ⟨b, 0, none⟩)) w9))
  have H1 := Lib.hid (fun w9 (h9 : Below w1.heap.size w1 w9) => (by have e := (h9.cell (p := ⟨q, 0, none⟩) (lt_of_block hb1)).trans (block_cell hb1 0); simp [go_sem, e, hdV] : (loadVar 9 ⟨q, 0, none⟩).run Try.prog w9 = .ok (.string x) w9))
  have H2 := Lib.hid (fun w9 (h9 : Below w1.heap.size w1 w9) => (by have e := (h9.cell (p := ⟨b, 1, none⟩) (lt_of_block hb)).trans (block_cell hb 1); simp [go_sem, e, hdV] : (loadVar 68 ⟨b, 1, none⟩).run Try.prog w9 = .ok (.map (some mb)) w9))
  have HD := Lib.hid d
  have Hown := Lib.hid hown
  have Hb := Lib.hid hb
  have Hm := Lib.hid hm
  have Hsz := Lib.hid hsz
  have HDk := Lib.hid (show DOk D L from hD)
  clear d hb0 hb1 hb hm hown hsz hD h4
  go_enter Try.func56, Try.ntmps56
  go_wp2_with fail
  refine wp_region_class_tail (Below w1.heap.size w1) 5 (by kernel_rfl) (by kernel_rfl) (Below.refl _ _).drew ?_
  simp only [List.take_succ_cons, List.take_zero, List.drop_succ_cons, List.drop_zero]
  repeat (go_big_quiet_step (first | (intro _; rfl)))
  refine wpQuiet_load_at rfl 25 (.tmp 0) rfl ⟨p, 0, none⟩ rfl (.pointer (some ⟨b, 0, none⟩)) H0.out ?_
  simp only [Act.put, List.setIfInBounds_toArray, List.set_cons_succ, List.set_cons_zero]
  repeat (go_big_quiet_step (first | (intro _; rfl)))
  refine wpQuiet_load_at rfl 68 (.tmp 4) rfl ⟨b, 1, none⟩ rfl (.map (some mb)) H2.out ?_
  simp only [Act.put, List.setIfInBounds_toArray, List.set_cons_succ, List.set_cons_zero]
  repeat (go_big_quiet_step (first | (intro _; rfl)))
  refine wpQuiet_load_at rfl 9 (.tmp 1) rfl ⟨q, 0, none⟩ rfl (.string x) H1.out ?_
  simp only [Act.put, List.setIfInBounds_toArray, List.set_cons_succ, List.set_cons_zero]
  repeat (go_big_quiet_step (first | (intro _; rfl)))
  refine wpQuiet_nil ?_
  intro wz hz
  have hown2 := ownsMap_of Hown.out (hz.block mb Hm.out.lt)
  have Hown2 := Lib.hid hown2
  have Hz := Lib.hid hz
  clear hown2 hz
  go_wp2_with (first | (at_delete; refine wpList_delete_own _ rfl _ _ 68 9 rfl 84 key9 Try.underlying68 ptrR mb L.length D rfl Hown2.out _ _ rfl (keyS hx) ?_; intro w2 hown3 hturn))
  have hfin := drop_dev HD.out Hb.out Hm.out HDk.out Hsz.out Hown2.out hx Hz.out hown3 hturn hSm
  have Hfin := Lib.hid hfin
  clear hfin hown3 hturn
  go_wp2_with fail
  exact bodyPost_end (v := .tuple #[]) (by simp [results, Try.results56]) rfl ⟨rfl, Hfin.out.1.mono (fun k hk => .inl hk), Hfin.out.2.1⟩

def renF (f : Fl) (y : ByteArray) : Fl := ⟨y, f.B, f.v, f.d, f.s⟩
set_option maxRecDepth 100000 in
set_option maxHeartbeats 1000000 in
theorem rename1 {S : Nat → Prop} {b p q p2 q2 : Nat} {L : List Fl} {w : World} {f : Fl} {y : ByteArray} (hy : y.size ≤ 32) (hf : f ∈ L) (hL : L.length ≤ 1048576) (hp : BoxV S w p 25 (.pointer (some ⟨b, 0, none⟩))) (hq : BoxV S w q 9 (.string f.nm)) (hp2 : BoxV S w p2 84 (.pointer (some ⟨f.B, 0, none⟩))) (hq2 : BoxV S w q2 9 (.string y)) :
    Does S b L (fun L2 => L2 = upd (drp L f.nm) (renF f y)) 72 #[.pointer (some ⟨p, 0, none⟩), .pointer (some ⟨q, 0, none⟩), .pointer (some ⟨p2, 0, none⟩), .pointer (some ⟨q2, 0, none⟩)] w := by
  intro w1 h1 d hK
  have hb0 := hp.kept hK
  have hb1 := hq.kept hK
  obtain ⟨mb, hb, hm, hbm, h4, hSb, hSm⟩ := d.f
  obtain ⟨D, hown, hsz, hD⟩ := hm.own
  have hb2 := hp2.kept hK
  have hb3 := hq2.kept hK
  have H0 := Lib.hid (fun w9 (h9 : Below w1.heap.size w1 w9) => (by have e := (h9.cell (p := ⟨p, 0, none⟩) (lt_of_block hb0)).trans (block_cell hb0 0); simp [go_sem, e, hdV] : (loadVar 25 ⟨p, 0, none⟩).run Try.prog w9 = .ok (.pointer (some ⟨b, 0, none⟩)) w9))
  have H1 := Lib.hid (fun w9 (h9 : Below w1.heap.size w1 w9) => (by have e := (h9.cell (p := ⟨q, 0, none⟩) (lt_of_block hb1)).trans (block_cell hb1 0); simp [go_sem, e, hdV] : (loadVar 9 ⟨q, 0, none⟩).run Try.prog w9 = .ok (.string f.nm) w9))
  have H2 := Lib.hid (fun w9 (h9 : Below w1.heap.size w1 w9) => (by have e := (h9.cell (p := ⟨b, 1, none⟩) (lt_of_block hb)).trans (block_cell hb 1); simp [go_sem, e, hdV] : (loadVar 68 ⟨b, 1, none⟩).run Try.prog w9 = .ok (.map (some mb)) w9))
  have hx := d.name_le hf
  have HD := Lib.hid d
  have Hown := Lib.hid hown
  have Hb := Lib.hid hb
  have Hm := Lib.hid hm
  have Hsz := Lib.hid hsz
  have HDk := Lib.hid (show DOk D L from hD)
  have H4 := Lib.hid h4
  have Hb0 := Lib.hid hb0
  have Hb2 := Lib.hid hb2
  have Hb3 := Lib.hid hb3
  have Hno : Hid (mb ≠ p ∧ mb ≠ p2 ∧ mb ≠ q2) := Lib.hid ⟨fun e => hp.s (e ▸ hSm), fun e => hp2.s (e ▸ hSm), fun e => hq2.s (e ▸ hSm)⟩
  clear d hb0 hb1 hb2 hb3 hb hm hown hsz hD h4
  go_enter Try.func72, Try.ntmps72
  go_wp2_with fail
  refine wp_region_class_tail (Below w1.heap.size w1) 5 (by kernel_rfl) (by kernel_rfl) (Below.refl _ _).drew ?_
  simp only [List.take_succ_cons, List.take_zero, List.drop_succ_cons, List.drop_zero]
  repeat (go_big_quiet_step (first | (intro _; rfl)))
  refine wpQuiet_load_at rfl 25 (.tmp 0) rfl ⟨p, 0, none⟩ rfl (.pointer (some ⟨b, 0, none⟩)) H0.out ?_
  simp only [Act.put, List.setIfInBounds_toArray, List.set_cons_succ, List.set_cons_zero]
  repeat (go_big_quiet_step (first | (intro _; rfl)))
  refine wpQuiet_load_at rfl 68 (.tmp 6) rfl ⟨b, 1, none⟩ rfl (.map (some mb)) H2.out ?_
  simp only [Act.put, List.setIfInBounds_toArray, List.set_cons_succ, List.set_cons_zero]
  repeat (go_big_quiet_step (first | (intro _; rfl)))
  refine wpQuiet_load_at rfl 9 (.tmp 1) rfl ⟨q, 0, none⟩ rfl (.string f.nm) H1.out ?_
  simp only [Act.put, List.setIfInBounds_toArray, List.set_cons_succ, List.set_cons_zero]
  repeat (go_big_quiet_step (first | (intro _; rfl)))
  refine wpQuiet_nil ?_
  intro wz hz
  have hown2 := ownsMap_of Hown.out (hz.block mb Hm.out.lt)
  have Hown2 := Lib.hid hown2
  have Hz := Lib.hid hz
  clear hown2 hz
  go_wp2_with (first | (at_delete; refine wpList_delete_own _ rfl _ _ 68 9 rfl 84 key9 Try.underlying68 ptrR mb L.length D rfl Hown2.out _ _ rfl (keyS hx) ?_; intro w2 hown3 hturn))
  have hfin := drop_dev HD.out Hb.out Hm.out HDk.out Hsz.out Hown2.out hx Hz.out hown3 hturn hSm
  have Hfin := Lib.hid hfin
  have HK2 : ∀ k, k < w1.heap.size → k ≠ mb → w2.heap[k]? = w1.heap[k]? := fun k hk hne => (turned_other hturn (Nat.lt_of_lt_of_le hk Hz.out.size) hne).trans (Hz.out.block k hk)
  have hc0 := (HK2 p (lt_of_block Hb0.out) (Ne.symm Hno.out.1)).trans Hb0.out
  have hc2 := (HK2 p2 (lt_of_block Hb2.out) (Ne.symm Hno.out.2.1)).trans Hb2.out
  have hc3 := (HK2 q2 (lt_of_block Hb3.out) (Ne.symm Hno.out.2.2)).trans Hb3.out
  have hcb := (HK2 b (lt_of_block Hb.out) hbm).trans Hb.out
  have hmd := Lib.hid (MapOk.del Hown2.out HDk.out Hsz.out HD.out.nm hx hown3)
  have hff := Lib.hid ((HD.out.fo f hf).of_blocks (fun k hk => HK2 k ((HD.out.fo f hf).lt hk) (fun e => (H4.out f hf).2.1 (e ▸ hk))))
  obtain ⟨D2, hown4, hsz4, hD4⟩ := hmd.out.own
  have Hown4 := Lib.hid hown4
  have Hsz4 := Lib.hid hsz4
  have HD4 := Lib.hid (show DOk D2 (drp L f.nm) from hD4)
  have hdl : (drp L f.nm).length ≤ 1048576 := by
    have := List.length_filter_le (fun g : Fl => decide (g.nm ≠ f.nm)) L
    unfold drp; omega
  clear hfin hown3 hturn hown4 hsz4 hD4
  have H5 := Lib.hid (fun w9 (h9 : Below w2.heap.size w2 w9) => (by have e := (h9.cell (p := ⟨p, 0, none⟩) (lt_of_block hc0)).trans (block_cell hc0 0); simp [go_sem, e, hdV] : (loadVar 25 ⟨p, 0, none⟩).run Try.prog w9 = .ok (.pointer (some ⟨b, 0, none⟩)) w9))
  have H6 := Lib.hid (fun w9 (h9 : Below w2.heap.size w2 w9) => (by have e := (h9.cell (p := ⟨q2, 0, none⟩) (lt_of_block hc3)).trans (block_cell hc3 0); simp [go_sem, e, hdV] : (loadVar 9 ⟨q2, 0, none⟩).run Try.prog w9 = .ok (.string y) w9))
  have H7 := Lib.hid (fun w9 (h9 : Below w2.heap.size w2 w9) => (by have e := (h9.cell (p := ⟨b, 1, none⟩) (lt_of_block hcb)).trans (block_cell hcb 1); simp [go_sem, e, hdV] : (loadVar 68 ⟨b, 1, none⟩).run Try.prog w9 = .ok (.map (some mb)) w9))
  have H8 := Lib.hid (fun w9 (h9 : Below w2.heap.size w2 w9) => (by have e := (h9.cell (p := ⟨p2, 0, none⟩) (lt_of_block hc2)).trans (block_cell hc2 0); simp [go_sem, e, hdV] : (loadVar 84 ⟨p2, 0, none⟩).run Try.prog w9 = .ok (.pointer (some ⟨f.B, 0, none⟩)) w9))
  have Hcb := Lib.hid hcb
  clear hc0 hc2 hc3 hcb HK2
  go_wp2_with fail
  refine wp_region_class_tail (Below w2.heap.size w2) 6 (by kernel_rfl) (by kernel_rfl) (Below.refl _ _).drew ?_
  simp only [List.take_succ_cons, List.take_zero, List.drop_succ_cons, List.drop_zero]
  repeat (go_big_quiet_step (first | (intro _; rfl)))
  refine wpQuiet_load_at rfl 25 (.tmp 0) rfl ⟨p, 0, none⟩ rfl (.pointer (some ⟨b, 0, none⟩)) H5.out ?_
  simp only [Act.put, List.setIfInBounds_toArray, List.set_cons_succ, List.set_cons_zero]
  repeat (go_big_quiet_step (first | (intro _; rfl)))
  refine wpQuiet_load_at rfl 68 (.tmp 11) rfl ⟨b, 1, none⟩ rfl (.map (some mb)) H7.out ?_
  simp only [Act.put, List.setIfInBounds_toArray, List.set_cons_succ, List.set_cons_zero]
  repeat (go_big_quiet_step (first | (intro _; rfl)))
  refine wpQuiet_load_at rfl 9 (.tmp 3) rfl ⟨q2, 0, none⟩ rfl (.string y) H6.out ?_
  simp only [Act.put, List.setIfInBounds_toArray, List.set_cons_succ, List.set_cons_zero]
  repeat (go_big_quiet_step (first | (intro _; rfl)))
  refine wpQuiet_load_at rfl 84 (.tmp 2) rfl ⟨p2, 0, none⟩ rfl (.pointer (some ⟨f.B, 0, none⟩)) H8.out ?_
  simp only [Act.put, List.setIfInBounds_toArray, List.set_cons_succ, List.set_cons_zero]
  repeat (go_big_quiet_step (first | (intro _; rfl)))
  refine wpQuiet_nil ?_
  intro wy hy2
  have hown6 := ownsMap_of Hown4.out (hy2.block mb hmd.out.lt)
  have Hown6 := Lib.hid hown6
  have Hy := Lib.hid hy2
  have hkeyy := keyS (x := y) (by unfold maxLen; omega)
  have hroom : (drp L f.nm).length < maxLen := by unfold maxLen; omega
  clear hown6 hy2
  go_wp2_with (first | (at_mapUpdate; refine wpList_mapUpdate_in _ rfl _ _ _ 68 rfl 9 84 key9 Try.underlying68 ptrR mb (drp L f.nm).length D2 rfl Hown6.out hroom _ _ (keyL y) rfl rfl hkeyy (ptrD (some f.B)) [] (ptrR_v (some f.B)) ?_; intro w3 hown7 hturn2))
  have hsz3 : w3.heap.size = wy.heap.size := by
    obtain ⟨es, clock, es', clock', hb, rfl⟩ := hturn2
    simp [setBlock]
  have HK3 : ∀ k, k < w2.heap.size → k ≠ mb → w3.heap[k]? = w2.heap[k]? := fun k hk hne => (turned_other hturn2 (Nat.lt_of_lt_of_le hk Hy.out.size) hne).trans (Hy.out.block k hk)
  have hput := Lib.hid (MapOk.put (f' := renF f y) Hown6.out HD4.out Hsz4.out (by show y.size ≤ maxLen; unfold maxLen; omega) hown7)
  have hd3 : Dev S b h1 (upd (drp L f.nm) (renF f y)) w3 := Hfin.out.1.put hy ((hff.out.of_blocks (fun k hk => HK3 k (hff.out.lt hk) (fun e => (H4.out f hf).2.1 (e ▸ hk)))) |> fun h => ⟨h.box, h.row, h.le⟩) (fun mb2 hb9 => by
    have : mb2 = mb := by
      have h8 := hb9.symm.trans Hcb.out
      simp only [hdV, Option.some.injEq, Obj.cells.injEq, Array.mk.injEq, List.cons.injEq, Value.map.injEq] at h8
      exact h8.1.2.1
    subst this
    exact ⟨hput.out, fun k hk hne => HK3 k hk hne, (H4.out f hf).1, (H4.out f hf).2.1⟩) (H4.out f hf).2.2
    (fun g hg k hk => HD.out.ff f hf g (drp_mem.1 hg).1 (Ne.symm (drp_mem.1 hg).2) k hk) (fun k hk => HD.out.ss f hf k hk)
  have Hk3 : Hid (Kept S w1 w3) := Lib.hid (Hfin.out.2.1.trans' ⟨hturn2.grown.os.trans Hy.out.os, hturn2.grown.tape.trans Hy.out.tape, hturn2.grown.output.trans Hy.out.output, by rw [hsz3]; exact Hy.out.size, fun k hk hn => HK3 k hk (fun e => hn (e ▸ hSm))⟩)
  have Hd3 := Lib.hid hd3
  clear hown7 hturn2 hd3 HK3
  go_wp2_with fail
  exact bodyPost_end (v := .tuple #[]) (by simp [results, Try.results72]) rfl ⟨rfl, Hd3.out.mono (fun k hk => .inl hk), Hk3.out⟩
end Go.Proofs.Ytbdlmdmbaajcmaa
namespace Go.Proofs.Ytbdlmdmbaajcmaa
set_option linter.unusedVariables false
set_option linter.unusedSimpArgs false
open Go.ChangeShapes Go.WideShapes Go.ChangeAt Go.RowKit Go.ChangeMaps

theorem out_append_k3 {P : Program} {o : Oper} {ρ : Operand → Value} {w w' : World} {v u v' : Value} {φ : Value → World → Prop} (s x : Operand) (t : TypeId) (ho : o.op = .call { callee := .builtin .append, args := #[s, x], argTypes := #[t, t] })
    (hs : ρ s = v) (hx : ρ x = u) (hr : (Builtin.append_ #[t, t] o.type #[v, u]).run P w = .ok v' w') (hφ : φ v' w') : K3.Out P o ρ w φ := by
  refine K3.out_run (v := v') (w' := w') ?_ hφ
  unfold execOp
  simp only [ho, resolve, invoke, builtin, Sem.run_bind, Sem.run_pure, Result.andThen_ok, List.map_toArray, List.map_cons, List.map_nil, hs, hx, hr]
theorem out_load3 {P : Program} {o : Oper} {ρ : Operand → Value} {w : World} {φ : Value → World → Prop} {ty : TypeId} {x : Operand} {p : Addr} {v : Value} (ho : o.op = .load ty x) (hx : ρ x = .pointer (some p)) (hr : (loadVar ty p).run P w = .ok v w) (hφ : φ v w) : K3.Out P o ρ w φ := by
  refine K3.out_run (v := v) (w' := w) ?_ hφ
  unfold execOp
  simp only [ho, hx, Instr.loadAt, Instr.sureAddr, Sem.run_bind, Sem.run_pure, Result.andThen_ok, hr]
theorem out_store29 {o : Oper} {ρ : Operand → Value} {w : World} {φ : Value → World → Prop} {x y : Operand} {B i t : Nat} {p : Option Addr} {n c : Nat} {R : Array Value} (ho : o.op = .store 40 x y) (hx : ρ x = .pointer (some ⟨B, i, none⟩)) (hy : ρ y = .slice p n c)
    (hg : w.heap[B]? = some (.cells R t (0, 0))) (hi : i < R.size) (hφ : φ undef (w.setCell ⟨B, i, none⟩ (.slice p n c))) : K3.Out Try.prog o ρ w φ := by
  have hc : w.cell? ⟨B, i, none⟩ = some R[i] := by simp [World.cell?, hg, hi]
  have hf : w.frozen? ⟨B, i, none⟩ = false := by simp [World.frozen?, hg]
  have hw : (storeVar 40 ⟨B, i, none⟩ (.slice p n c)).run Try.prog w = .ok () (w.setCell ⟨B, i, none⟩ (.slice p n c)) := by
    simp [storeVar, go_sem, hc, hf]
  unfold K3.Out execOp
  simp only [ho, hx, hy, Instr.storeAt, Instr.sureAddr, Sem.run_bind, Sem.run_pure, Result.andThen_ok, hw]
  exact hφ
theorem own_slice {w : World} {v : Value} {n : Nat} {xs : List Value} (h : w.ownsRow 0 5 1 v n xs) : ∃ p m c, v = .slice p m c := by
  rcases h.2 with ⟨hv, _⟩ | ⟨g, cap, cur, hv, _⟩
  · exact ⟨_, _, _, hv⟩
  · exact ⟨_, _, _, hv⟩
theorem wpQuiet_lookup_at {P : Program} {C : World → Prop} {ops : Array Oper} {rest : List Oper} {o : Oper} {a : Act} {Q : Act → Prop} (hw : Region.wanted o (yielded ops a.tmps) = true) (ty : TypeId) (m k : Operand) (ho : o.op = .lookup ty m k false)
    (vm vk v : Value) (hm : a.eval m = vm) (hk : a.eval k = vk) (hr : ∀ w, C w → (Instr.lookup ty vm vk false).run P w = .ok v w)
    (h : wpQuiet P ops C Q rest (a.put o.dst v)) : wpQuiet P ops C Q (o :: rest) a := by
  refine Go.BigFrame.wpQuiet_want hw fun K hK => ⟨v, fun w hw => ?_, hK _ h⟩
  unfold Oper.quietAt execOp
  simp only [ho, hm, hk, Sem.run_bind, Sem.run_pure, Result.andThen_ok, hr w hw]
  exact ⟨rfl, rfl⟩
theorem upd_upd {L : List Fl} {f0 f' : Fl} (h : f0.nm = f'.nm) : upd (upd L f0) f' = upd L f' := by
  have hl : look (upd L f0) f'.nm = some f0 := by rw [look_upd, if_pos h]
  rw [upd_some hl]
  cases hk : look L f0.nm with
  | none =>
    rw [upd_none hk, upd_none (by rw [← h]; exact hk), List.map_append]
    congr 1
    · conv => rhs; rw [← List.map_id L]
      refine List.map_congr_left fun g hg => ?_
      rw [if_neg (by rw [← h]; exact look_none hk g hg)]; rfl
    · simp [h]
  | some f =>
    rw [upd_some hk, upd_some (by rw [← h]; exact hk), List.map_map]
    refine List.map_congr_left fun g _ => ?_
    simp only [Function.comp, h]
    by_cases e : g.nm = f'.nm
    · simp [e, h]
    · simp [e]
/-- A file's bytes, and how many are safe; none for a file that is not. -/
def datL (L : List Fl) (x : ByteArray) : List UInt8 := match look L x with | some f => f.d | none => []
def safL (L : List Fl) (x : ByteArray) : Nat := match look L x with | some f => f.s | none => 0
/-- What an append does. -/
def Apd (L : List Fl) (x : ByteArray) (c : List UInt8) (L2 : List Fl) : Prop := ∃ f', f'.nm = x ∧ f'.d = datL L x ++ c ∧ f'.s = safL L x ∧ L2 = upd L f'
structure ApE (w0 : World) (f : Fl) (v : Value) (w : World) : Prop where
  e : v = f.v
  b : Below w0.heap.size w0 w
theorem ApE.st1 (w0 : World) (f : Fl) : K3.St1 (ApE w0 f) := fun v w1 w2 h hB => ⟨h.e, h.b.trans (hB.mono h.b.size)⟩
structure ApW (w0 : World) (f : Fl) (c : List UInt8) (v : Value) (w : World) : Prop where
  row : w.ownsRow 0 5 1 v (f.d ++ c).length (LF bV (f.d ++ c))
  os : w.os = w0.os
  tape : w.tape = w0.tape
  output : w.output = w0.output
  size : w0.heap.size ≤ w.heap.size
  blk : ∀ k, k < w0.heap.size → f.v.ownBlock ≠ some k → w.heap[k]? = w0.heap[k]?
  own : ∀ g, v.ownBlock = some g → f.v.ownBlock = some g ∨ w0.heap.size ≤ g
theorem ApW.st1 (w0 : World) (f : Fl) (c : List UInt8) : K3.St1 (ApW w0 f c) := fun v w1 w2 h hB => ⟨gen_own_below h.row hB, hB.os.trans h.os, hB.tape.trans h.tape, hB.output.trans h.output, Nat.le_trans h.size hB.size,
  fun k hk hn => (hB.block k (Nat.lt_of_lt_of_le hk h.size)).trans (h.blk k hk hn), h.own⟩
structure ApS (w0 : World) (f : Fl) (c : List UInt8) (v : Value) (w : World) : Prop where
  e : ∃ v', w.ownsRow 0 5 1 v' (f.d ++ c).length (LF bV (f.d ++ c)) ∧ (∀ g, v'.ownBlock = some g → f.v.ownBlock = some g ∨ w0.heap.size ≤ g) ∧ w.heap[f.B]? = some (.cells #[v', .int .i64 (f.s : Nat)] 89 (0, 0))
  os : w.os = w0.os
  tape : w.tape = w0.tape
  output : w.output = w0.output
  size : w0.heap.size ≤ w.heap.size
  blk : ∀ k, k < w0.heap.size → k ∉ f.bl → w.heap[k]? = w0.heap[k]?
theorem ApS.st1 (w0 : World) (f : Fl) (c : List UInt8) : K3.St1 (ApS w0 f c) := fun v w1 w2 h hB => by
  obtain ⟨v', h1, h2, h3⟩ := h.e
  exact ⟨⟨v', gen_own_below h1 hB, h2, (hB.block f.B (lt_of_block h3)).trans h3⟩, hB.os.trans h.os, hB.tape.trans h.tape, hB.output.trans h.output, Nat.le_trans h.size hB.size, fun k hk hn => (hB.block k (Nat.lt_of_lt_of_le hk h.size)).trans (h.blk k hk hn)⟩
theorem ApW.of_append {w0 w w' : World} {f : Fl} {c : List UInt8} {v' : Value} (hr : w.ownsRow 0 5 1 f.v f.d.length (LF bV f.d)) (hb : Below w0.heap.size w0 w) (ho : w'.ownsRow 0 5 1 v' (f.d.length + c.length) (LF bV f.d ++ LF bV c)) (hg : w.grownBy w' f.v.ownBlock) (ha : v'.ownBlock = f.v.ownBlock ∨ v'.ownBlock = some w.heap.size) : ApW w0 f c v' w' :=
  ⟨by rw [List.length_append, LF_app]; exact ho, hg.os.trans hb.os, hg.tape.trans hb.tape, hg.output.trans hb.output, Nat.le_trans hb.size hg.size,
    fun k hk hn => (hg.block k (Nat.lt_of_lt_of_le hk hb.size) (fun e => hn e.symm)).trans (hb.block k hk), fun g h => by
      rcases ha with e | e
      · exact .inl (e ▸ h)
      · rw [e] at h; injection h with h; exact .inr (by rw [← h]; exact hb.size)⟩
theorem ApS.of_store {w0 w : World} {f : Fl} {c : List UInt8} {v v2 : Value} (h : ApW w0 f c v w) (hb : w0.heap[f.B]? = some (.cells #[f.v, .int .i64 (f.s : Nat)] 89 (0, 0))) (hne : f.v.ownBlock ≠ some f.B) : ApS w0 f c v2 (w.setCell ⟨f.B, 0, none⟩ v) ∧ Below 0 w (w.setCell ⟨f.B, 0, none⟩ v) := by
  have hb2 := (h.blk f.B (lt_of_block hb) hne).trans hb
  have hlt := lt_of_block hb
  refine ⟨⟨⟨v, own_of h.row (fun g hg => set_other _ _ _ _ _ (fun e => ?_)), h.own, ?_⟩, h.os, h.tape, h.output, by simpa [World.setCell] using h.size, fun k hk hn => ?_⟩, ⟨rfl, rfl, rfl, by simp [World.setCell], fun k hk => absurd hk (Nat.not_lt_zero k)⟩⟩
  · rcases h.own g hg with e2 | e2
    · exact hne (by rw [← e]; exact e2)
    · omega
  · have := block_set (i := 0) (u := v) hb2
    exact this
  · exact (set_other _ _ _ _ _ (fun e => hn (Fl.mem_bl.2 (.inl e)))).trans (h.blk k hk (fun e => hn (Fl.mem_bl.2 (.inr e))))
/-- The file that is written, in its device. -/
theorem ApS.dev {S : Nat → Prop} {b : Nat} {h1 : Hd} {L : List Fl} {w0 w : World} {f : Fl} {c : List UInt8} {v : Value} (h : ApS w0 f c v w) (d : Dev S b h1 L w0) (hf : f ∈ L) : ∃ f', f'.nm = f.nm ∧ f'.d = f.d ++ c ∧ f'.s = f.s ∧ Dev (Gr S w0 w) b h1 (upd L f') w ∧ Kept S w0 w := by
  obtain ⟨v', h2, h3, h4⟩ := h.e
  refine ⟨⟨f.nm, f.B, v', f.d ++ c, f.s⟩, rfl, rfl, rfl, d.setF hf rfl rfl ⟨h4, h2, ?_⟩ h.size h.blk h3, ⟨h.os, h.tape, h.output, h.size, fun k hk hn => h.blk k hk (fun e => hn (d.ss f hf k e))⟩⟩
  have := (d.fo f hf).le
  simp only [List.length_append]; omega
set_option maxRecDepth 100000 in
set_option maxHeartbeats 1000000 in
theorem append1 {S : Nat → Prop} {b p q r : Nat} {L : List Fl} {w : World} {x : ByteArray} {u : Value} {c : List UInt8} (hx : x.size ≤ 32) (hL : ∀ f ∈ L, f.d.length ≤ 16777216) (hLn : L.length ≤ 1048576) (hcl : c.length ≤ 16777216) (hp : BoxV S w p 25 (.pointer (some ⟨b, 0, none⟩))) (hq : BoxV S w q 9 (.string x)) (hr : BoxV S w r 40 u) (hu : ∀ w1, Kept S w w1 → LAt 1 bV w1 u c) :
    Does S b L (Apd L x c) 68 #[.pointer (some ⟨p, 0, none⟩), .pointer (some ⟨q, 0, none⟩), .pointer (some ⟨r, 0, none⟩)] w := by
  intro w1 h1 d hK
  have hb0 := hp.kept hK
  have hb1 := hq.kept hK
  have hb2 := hr.kept hK
  have hu1 := hu w1 hK
  obtain ⟨mb, hb, hm, hbm, h4, hSb, hSm⟩ := d.f
  have H0 := Lib.hid (fun w9 (h9 : Below w1.heap.size w1 w9) => (by have e := (h9.cell (p := ⟨p, 0, none⟩) (lt_of_block hb0)).trans (block_cell hb0 0); simp [go_sem, e, hdV] : (loadVar 25 ⟨p, 0, none⟩).run Try.prog w9 = .ok (.pointer (some ⟨b, 0, none⟩)) w9))
  have H1 := Lib.hid (fun w9 (h9 : Below w1.heap.size w1 w9) => (by have e := (h9.cell (p := ⟨q, 0, none⟩) (lt_of_block hb1)).trans (block_cell hb1 0); simp [go_sem, e, hdV] : (loadVar 9 ⟨q, 0, none⟩).run Try.prog w9 = .ok (.string x) w9))
  have H2 := Lib.hid (fun w9 (h9 : Below w1.heap.size w1 w9) => (by have e := (h9.cell (p := ⟨b, 1, none⟩) (lt_of_block hb)).trans (block_cell hb 1); simp [go_sem, e, hdV] : (loadVar 68 ⟨b, 1, none⟩).run Try.prog w9 = .ok (.map (some mb)) w9))
  have hxm : x.size ≤ maxLen := by unfold maxLen; omega
  have hlk : ∀ w9, Below w1.heap.size w1 w9 → (Instr.lookup 68 (.map (some mb)) (.string x) false).run Try.prog w9 = .ok (ptrV ((look L x).map Fl.B)) w9 := fun w9 h9 => (hm.of_block (h9.block mb hm.lt)).lkp hxm
  have HD := Lib.hid d
  have Hb := Lib.hid hb
  have Hm := Lib.hid hm
  have H4 := Lib.hid h4
  have Hb2 := Lib.hid hb2
  have Hu1 := Lib.hid hu1
  have hul : ∃ pu lu cu, u = .slice pu lu cu := by
    rcases hu1.2 with ⟨pp, cap, e, _⟩ | ⟨bb, off, cap, e, _⟩
    · exact ⟨_, _, _, e⟩
    · exact ⟨_, _, _, e⟩
  have Hul0 := Lib.hid hul
  clear d hb0 hb1 hb2 hb hm h4 hu1 hul
  cases hl : look L x with
  | some f =>
    rw [hl] at hlk
    have H3 := Lib.hid (show ∀ w9, Below w1.heap.size w1 w9 → (Instr.lookup 68 (.map (some mb)) (.string x) false).run Try.prog w9 = .ok (.pointer (some ⟨f.B, 0, none⟩)) w9 from hlk)
    obtain ⟨hf, hfx⟩ := look_some hl
    have HX : Hid (datL L x = f.d ∧ safL L x = f.s) := Lib.hid (by unfold datL safL; rw [hl]; exact ⟨rfl, rfl⟩)
    clear hlk hl
    go_enter Try.func68, Try.ntmps68
    go_wp2_with fail
    refine wp_region_class (Below w1.heap.size w1) (by kernel_rfl) (by kernel_rfl) (Below.refl _ _).drew ?_
    repeat (go_big_quiet_step (first | (intro _; rfl)))
    refine wpQuiet_load_at rfl 25 (.tmp 0) rfl ⟨p, 0, none⟩ rfl (.pointer (some ⟨b, 0, none⟩)) H0.out ?_
    simp only [Act.put, List.setIfInBounds_toArray, List.set_cons_succ, List.set_cons_zero]
    repeat (go_big_quiet_step (first | (intro _; rfl)))
    refine wpQuiet_load_at rfl 68 (.tmp 6) rfl ⟨b, 1, none⟩ rfl (.map (some mb)) H2.out ?_
    simp only [Act.put, List.setIfInBounds_toArray, List.set_cons_succ, List.set_cons_zero]
    repeat (go_big_quiet_step (first | (intro _; rfl)))
    refine wpQuiet_load_at rfl 9 (.tmp 1) rfl ⟨q, 0, none⟩ rfl (.string x) H1.out ?_
    simp only [Act.put, List.setIfInBounds_toArray, List.set_cons_succ, List.set_cons_zero]
    repeat (go_big_quiet_step (first | (intro _; rfl)))
    refine wpQuiet_lookup_at rfl 68 (.tmp 7) (.tmp 8) rfl (.map (some mb)) (.string x) (.pointer (some ⟨f.B, 0, none⟩)) rfl rfl H3.out ?_
    simp only [Act.put, List.setIfInBounds_toArray, List.set_cons_succ, List.set_cons_zero]
    repeat (go_big_quiet_step (first | (intro _; rfl)))
    refine wpQuiet_nil ?_
    intro wz hz
    have dz := HD.out.below hz
    have Hfo := dz.fo f hf
    have Hbx := Lib.hid Hfo.box
    have Hrow := Lib.hid Hfo.row
    have Hbu := Lib.hid ((hz.block r (lt_of_block Hb2.out)).trans Hb2.out)
    have Hul := Lib.hid (Hu1.out.below hz.drew)
    have hle := hL f hf
    obtain ⟨pv, cv, hv⟩ := row_shape Hfo
    obtain ⟨pu, lu, cu, hu9⟩ := Hul0.out
    have Hv := Lib.hid hv
    have Hu := Lib.hid hu9
    have Hne := Lib.hid (H4.out f hf).2.2
    have Hdz := Lib.hid dz
    have Hz := Lib.hid hz
    clear dz Hfo hz hv hu9
    go_wp2_with fail
    have hRL : ∃ Rs : List (Value → World → Prop), Rs = [K3.PureV (.pointer (some ⟨f.B, 0, none⟩)),
        K3.PureV (.pointer (some ⟨f.B, 0, none⟩)),
        K3.PureV (.pointer (some ⟨f.B, 0, none⟩)),
        K3.PureV (.pointer (some ⟨f.B, 0, none⟩)),
        ApE wz.drew f,
        K3.PureV (u),
        ApW wz.drew f c,
        K3.PureV (.pointer (some ⟨f.B, 0, none⟩)),
        K3.PureV (.pointer (some ⟨f.B, 0, none⟩)),
        ApS wz.drew f c] := ⟨_, rfl⟩
    obtain ⟨Rs, hRs⟩ := hRL
    refine K3.wp_region_rel2 0 (Nat.zero_le _) (K3.RL Rs) [2, 2, 2, 2, 1, 2, 1, 2, 2, 1] [1, 1, 1, 1, 1, 1, 2, 1, 1, 2] [[], [], [], [], [], [], [4], [], [], [4, 6]] (by kernel_rfl) (by kernel_rfl) (K3.RL.st1 (by rw [hRs]; exact K3.st1_cons (K3.PureV.st1 _) (K3.st1_cons (K3.PureV.st1 _) (K3.st1_cons (K3.PureV.st1 _) (K3.st1_cons (K3.PureV.st1 _) (K3.st1_cons (ApE.st1 _ _) (K3.st1_cons (K3.PureV.st1 _) (K3.st1_cons (ApW.st1 _ _ _) (K3.st1_cons (K3.PureV.st1 _) (K3.st1_cons (K3.PureV.st1 _) (K3.st1_cons (ApS.st1 _ _ _) (K3.st1_nil)))))))))))) (K3.RL.st2 (by rw [hRs]; exact K3.st2_cons (K3.PureV.st2 _ _ _) (K3.st2_cons (K3.PureV.st2 _ _ _) (K3.st2_cons (K3.PureV.st2 _ _ _) (K3.st2_cons (K3.PureV.st2 _ _ _) (K3.st2_skip (K3.st2_cons (K3.PureV.st2 _ _ _) (K3.st2_skip (K3.st2_cons (K3.PureV.st2 _ _ _) (K3.st2_cons (K3.PureV.st2 _ _ _) (K3.st2_skip (K3.st2_nil)))))))))))) ?_ ?_ ?_
    · intro i o d hi hd
      have hmem := List.mem_of_getElem? hi
      simp only [List.mem_cons, List.not_mem_nil, or_false] at hmem
      rcases hmem with rfl | rfl | rfl | rfl | rfl | rfl | rfl | rfl | rfl | rfl <;> simp at hd <;> (subst hd; simp)
    · refine K3.rel_start (Φ := K3.Hop _ _ _ _ _ _ _) ?_
      refine K3.rel_cons (Φ := K3.Hop _ _ _ _ _ _ _) (k := 0) ?_ ?_
      · intro fa fw hfB hfN hfE hfk hft
        have k3 : fa.eval (.tmp 3) = .pointer (some ⟨f.B, 0, none⟩) := hft 3 (K3.mem_looks (by kernel_rfl)) (K3.noneed (by kernel_rfl))
        rw [hRs]
        refine K3.hop_plain rfl ?_
        refine K3.out_move rfl ?_
        exact ⟨k3, Below.refl _ _⟩
      refine K3.rel_cons (Φ := K3.Hop _ _ _ _ _ _ _) (k := 1) ?_ ?_
      · intro fa fw hfB hfN hfE hfk hft
        have k3 : fa.eval (.tmp 3) = .pointer (some ⟨f.B, 0, none⟩) := hft 3 (K3.mem_looks (by kernel_rfl)) (K3.noneed (by kernel_rfl))
        rw [hRs]
        refine K3.hop_plain rfl ?_
        refine K3.out_move rfl ?_
        exact ⟨k3, Below.refl _ _⟩
      refine K3.rel_cons (Φ := K3.Hop _ _ _ _ _ _ _) (k := 2) ?_ ?_
      · intro fa fw hfB hfN hfE hfk hft
        have k21 : fa.eval (.tmp 21) = (.pointer (some ⟨f.B, 0, none⟩)) := by have := hfk 1 (K3.mem_needs (by kernel_rfl)) _ rfl; rw [hRs] at this; exact this
        rw [hRs]
        refine K3.hop_plain rfl ?_
        generalize fa.eval = ρ at *
        exact K3.out_run (v := .pointer (some ⟨f.B, 0, none⟩)) (w' := fw) (by simp [execOp, k21, go_sem]) ⟨rfl, Below.refl _ _⟩
      refine K3.rel_cons (Φ := K3.Hop _ _ _ _ _ _ _) (k := 3) ?_ ?_
      · intro fa fw hfB hfN hfE hfk hft
        have k22 : fa.eval (.tmp 22) = (.pointer (some ⟨f.B, 0, none⟩)) := by have := hfk 2 (K3.mem_needs (by kernel_rfl)) _ rfl; rw [hRs] at this; exact this
        rw [hRs]
        refine K3.hop_plain rfl ?_
        generalize fa.eval = ρ at *
        exact K3.out_run (v := .pointer (some ⟨f.B, 0, none⟩)) (w' := fw) (by simp [execOp, k22, go_sem]) ⟨rfl, Below.refl _ _⟩
      refine K3.rel_cons (Φ := K3.Hop _ _ _ _ _ _ _) (k := 4) ?_ ?_
      · intro fa fw hfB hfN hfE hfk hft
        have hE : Below wz.drew.heap.size wz.drew fw := hfE (by kernel_rfl)
        have k23 : fa.eval (.tmp 23) = (.pointer (some ⟨f.B, 0, none⟩)) := by have := hfk 3 (K3.mem_needs (by kernel_rfl)) _ rfl; rw [hRs] at this; exact this
        rw [hRs]
        refine K3.hop_plain rfl ?_
        have c9 := block_cell ((hE.block _ (lt_of_block Hbx.out)).trans Hbx.out) 0
        exact out_load3 rfl k23 (by rw [Hv.out] at c9 ⊢; simp [go_sem, c9]) ⟨⟨rfl, hE⟩, Below.refl _ _⟩
      refine K3.rel_cons (Φ := K3.Hop _ _ _ _ _ _ _) (k := 5) ?_ ?_
      · intro fa fw hfB hfN hfE hfk hft
        have hE : Below wz.drew.heap.size wz.drew fw := hfE (by kernel_rfl)
        have k2 : fa.eval (.tmp 2) = .pointer (some ⟨r, 0, none⟩) := hft 2 (K3.mem_looks (by kernel_rfl)) (K3.noneed (by kernel_rfl))
        rw [hRs]
        refine K3.hop_plain rfl ?_
        have c9 := block_cell ((hE.block _ (lt_of_block Hbu.out)).trans Hbu.out) 0
        exact out_load3 rfl k2 (by rw [Hu.out] at c9 ⊢; simp [go_sem, c9]) ⟨rfl, Below.refl _ _⟩
      refine K3.rel_cons (Φ := K3.Hop _ _ _ _ _ _ _) (k := 6) ?_ ?_
      · intro fa fw hfB hfN hfE hfk hft
        have k24 : (ApE wz.drew f) (fa.eval (.tmp 24)) fw := by have := hfk 4 (K3.mem_needs (by kernel_rfl)) _ rfl; rw [hRs] at this; exact this
        have k25 : fa.eval (.tmp 25) = (u) := by have := hfk 5 (K3.mem_needs (by kernel_rfl)) _ rfl; rw [hRs] at this; exact this
        rw [hRs]
        refine K3.hop_plain rfl ?_
        obtain ⟨hv0, hb0⟩ := k24
        obtain ⟨v', w', hr, ho, hg, ha⟩ := run_append_gen2 eltB fw 0 _ _ _ _ c (own_of Hrow.out (fun g hg => hb0.block g (own_lt0 Hrow.out hg))) (Hul.out.below hb0) (by omega) (by unfold maxLen; omega) (Nat.zero_le _)
        exact out_append_k3 (.tmp 24) (.tmp 25) 40 rfl hv0 k25 hr ⟨ApW.of_append (own_of Hrow.out (fun g hg => hb0.block g (own_lt0 Hrow.out hg))) hb0 ho hg ha, ⟨hg.os, hg.tape, hg.output, hg.size, fun k hk => absurd hk (Nat.not_lt_zero k)⟩⟩
      refine K3.rel_cons (Φ := K3.Hop _ _ _ _ _ _ _) (k := 7) ?_ ?_
      · intro fa fw hfB hfN hfE hfk hft
        have k20 : fa.eval (.tmp 20) = (.pointer (some ⟨f.B, 0, none⟩)) := by have := hfk 0 (K3.mem_needs (by kernel_rfl)) _ rfl; rw [hRs] at this; exact this
        rw [hRs]
        refine K3.hop_plain rfl ?_
        generalize fa.eval = ρ at *
        exact K3.out_run (v := .pointer (some ⟨f.B, 0, none⟩)) (w' := fw) (by simp [execOp, k20, go_sem]) ⟨rfl, Below.refl _ _⟩
      refine K3.rel_cons (Φ := K3.Hop _ _ _ _ _ _ _) (k := 8) ?_ ?_
      · intro fa fw hfB hfN hfE hfk hft
        have k27 : fa.eval (.tmp 27) = (.pointer (some ⟨f.B, 0, none⟩)) := by have := hfk 7 (K3.mem_needs (by kernel_rfl)) _ rfl; rw [hRs] at this; exact this
        rw [hRs]
        refine K3.hop_plain rfl ?_
        generalize fa.eval = ρ at *
        exact K3.out_run (v := .pointer (some ⟨f.B, 0, none⟩)) (w' := fw) (by simp [execOp, k27, go_sem]) ⟨rfl, Below.refl _ _⟩
      refine K3.rel_cons (Φ := K3.Hop _ _ _ _ _ _ _) (k := 9) ?_ ?_
      · intro fa fw hfB hfN hfE hfk hft
        have k28 : fa.eval (.tmp 28) = (.pointer (some ⟨f.B, 0, none⟩)) := by have := hfk 8 (K3.mem_needs (by kernel_rfl)) _ rfl; rw [hRs] at this; exact this
        have k26 : (ApW wz.drew f c) (fa.eval (.tmp 26)) fw := by have := hfk 6 (K3.mem_needs (by kernel_rfl)) _ rfl; rw [hRs] at this; exact this
        rw [hRs]
        refine K3.hop_plain rfl ?_
        obtain ⟨p7, n7, c7, h7⟩ := own_slice k26.row
        have hst := fun v2 => ApS.of_store (v2 := v2) k26 Hbx.out Hne.out
        rw [h7] at hst
        exact out_store29 rfl k28 h7 ((k26.blk _ (lt_of_block Hbx.out) Hne.out).trans Hbx.out) (by simp) (hst _)
      exact K3.rel_nil
    · intro fa fw hfB hfy hff hfs hfd
      rw [hRs] at hfy
      have k98 : ∃ v99, ApS wz.drew f c v99 fw := ⟨_, hfy 9 _ rfl (K3.unkilled (by decide))⟩
      obtain ⟨v99, k99⟩ := k98
      have e := K3.rel_frame [20, 21, 22, 23, 24, 25, 26, 27, 28] (by kernel_rfl) hff hfs hfd
      simp only [List.foldl] at e
      clear hfy hff hfs hfd 
      generalize fa.tmps.getD 20 undef = x20 at e
      generalize fa.tmps.getD 21 undef = x21 at e
      generalize fa.tmps.getD 22 undef = x22 at e
      generalize fa.tmps.getD 23 undef = x23 at e
      generalize fa.tmps.getD 24 undef = x24 at e
      generalize fa.tmps.getD 25 undef = x25 at e
      generalize fa.tmps.getD 26 undef = x26 at e
      generalize fa.tmps.getD 27 undef = x27 at e
      generalize fa.tmps.getD 28 undef = x28 at e
      simp [List.setIfInBounds_toArray, List.set_cons_succ, List.set_cons_zero] at e
      subst e
      obtain ⟨f', e1, e2, e3, e4, e5⟩ := k99.dev (Hdz.out.of_blocks (fun _ _ _ => rfl)) hf
      have hfin : Apd L x c (upd L f') ∧ Dev (Gr S w1 fw) b h1 (upd L f') fw ∧ Kept S w1 fw := ⟨⟨f', e1.trans hfx, by rw [e2, HX.out.1], by rw [e3, HX.out.2], rfl⟩, e4.mono (fun k hk => hk.imp id (fun hg => ⟨Nat.le_trans Hz.out.size hg.1, hg.2⟩)), (Kept.of_below Hz.out).trans' ((show Kept S wz wz.drew from ⟨rfl, rfl, rfl, Nat.le_refl _, fun _ _ _ => rfl⟩).trans' e5)⟩
      have Hfin := Lib.hid hfin
      clear hfin e1 e2 e3 e4 e5 k99
      go_wp2_with fail
      exact bodyPost_end (v := .tuple #[]) (by simp [results, Try.results68]) rfl ⟨rfl, _, Hfin.out.1, Hfin.out.2.1, Hfin.out.2.2⟩
  | none =>
    rw [hl] at hlk
    have H3 := Lib.hid (show ∀ w9, Below w1.heap.size w1 w9 → (Instr.lookup 68 (.map (some mb)) (.string x) false).run Try.prog w9 = .ok (.pointer none) w9 from hlk)
    have HX : Hid (datL L x = [] ∧ safL L x = 0) := Lib.hid (by unfold datL safL; rw [hl]; exact ⟨rfl, rfl⟩)
    have Hkx := Lib.hid (keyS hxm)
    have Hroom : Hid (L.length < maxLen) := Lib.hid (by unfold maxLen; omega)
    clear hlk
    go_enter Try.func68, Try.ntmps68
    go_wp2_with fail
    refine wp_region_class (Below w1.heap.size w1) (by kernel_rfl) (by kernel_rfl) (Below.refl _ _).drew ?_
    repeat (go_big_quiet_step (first | (intro _; rfl)))
    refine wpQuiet_load_at rfl 25 (.tmp 0) rfl ⟨p, 0, none⟩ rfl (.pointer (some ⟨b, 0, none⟩)) H0.out ?_
    simp only [Act.put, List.setIfInBounds_toArray, List.set_cons_succ, List.set_cons_zero]
    repeat (go_big_quiet_step (first | (intro _; rfl)))
    refine wpQuiet_load_at rfl 68 (.tmp 6) rfl ⟨b, 1, none⟩ rfl (.map (some mb)) H2.out ?_
    simp only [Act.put, List.setIfInBounds_toArray, List.set_cons_succ, List.set_cons_zero]
    repeat (go_big_quiet_step (first | (intro _; rfl)))
    refine wpQuiet_load_at rfl 9 (.tmp 1) rfl ⟨q, 0, none⟩ rfl (.string x) H1.out ?_
    simp only [Act.put, List.setIfInBounds_toArray, List.set_cons_succ, List.set_cons_zero]
    repeat (go_big_quiet_step (first | (intro _; rfl)))
    refine wpQuiet_lookup_at rfl 68 (.tmp 7) (.tmp 8) rfl (.map (some mb)) (.string x) (.pointer none) rfl rfl H3.out ?_
    simp only [Act.put, List.setIfInBounds_toArray, List.set_cons_succ, List.set_cons_zero]
    repeat (go_big_quiet_step (first | (intro _; rfl)))
    refine wpQuiet_nil ?_
    intro wz hz
    have Hz := Lib.hid hz
    clear hz
    go_wp2_with fail
    have hz2 : Below w1.heap.size w1 (wz.alloc (.cells #[.slice none 0 0, .int .i64 0] 89)) := Hz.out.alloc (Hz.out.size) _
    have hnb : (wz.alloc (.cells #[.slice none 0 0, .int .i64 0] 89)).heap[wz.heap.size]? = some (.cells #[.slice none 0 0, .int .i64 0] 89 (0, 0)) := heap_alloc_new _ _
    have Hnz := Lib.hid Hz.out.size
    generalize wz.alloc (.cells #[.slice none 0 0, .int .i64 0] 89) = wa at *
    generalize wz.heap.size = B0 at *
    obtain ⟨f0, e1, e2, e3, e4, e5⟩ : ∃ f0 : Fl, f0.nm = x ∧ f0.B = B0 ∧ f0.v = .slice none 0 0 ∧ f0.d = [] ∧ f0.s = 0 := ⟨⟨x, B0, .slice none 0 0, [], 0⟩, rfl, rfl, rfl, rfl, rfl⟩
    subst e2
    obtain ⟨D, hown, hsz, hD⟩ := Hm.out.own
    have Hown := Lib.hid hown
    have Hsz := Lib.hid hsz
    have HDk := Lib.hid (show DOk D L from hD)
    have Hz2 := Lib.hid hz2
    have Hnb := Lib.hid hnb
    have H5 := Lib.hid (fun w9 (h9 : Below wa.heap.size wa w9) => H0.out w9 (Hz2.out.trans (h9.mono Hz2.out.size)))
    have H6 := Lib.hid (fun w9 (h9 : Below wa.heap.size wa w9) => H1.out w9 (Hz2.out.trans (h9.mono Hz2.out.size)))
    have H7 := Lib.hid (fun w9 (h9 : Below wa.heap.size wa w9) => H2.out w9 (Hz2.out.trans (h9.mono Hz2.out.size)))
    clear hown hsz hD hz2 hnb
    refine wp_region_class_tail (Below wa.heap.size wa) 6 (by kernel_rfl) (by kernel_rfl) (Below.refl _ _).drew ?_
    simp only [List.take_succ_cons, List.take_zero, List.drop_succ_cons, List.drop_zero]
    repeat (go_big_quiet_step (first | (intro _; rfl)))
    refine wpQuiet_load_at rfl 25 (.tmp 0) rfl ⟨p, 0, none⟩ rfl (.pointer (some ⟨b, 0, none⟩)) H5.out ?_
    simp only [Act.put, List.setIfInBounds_toArray, List.set_cons_succ, List.set_cons_zero]
    repeat (go_big_quiet_step (first | (intro _; rfl)))
    refine wpQuiet_load_at rfl 68 (.tmp 16) rfl ⟨b, 1, none⟩ rfl (.map (some mb)) H7.out ?_
    simp only [Act.put, List.setIfInBounds_toArray, List.set_cons_succ, List.set_cons_zero]
    repeat (go_big_quiet_step (first | (intro _; rfl)))
    refine wpQuiet_load_at rfl 9 (.tmp 1) rfl ⟨q, 0, none⟩ rfl (.string x) H6.out ?_
    simp only [Act.put, List.setIfInBounds_toArray, List.set_cons_succ, List.set_cons_zero]
    repeat (go_big_quiet_step (first | (intro _; rfl)))
    refine wpQuiet_nil ?_
    intro wy hy2
    have hmlt := Nat.lt_of_lt_of_le Hm.out.lt Hz2.out.size
    have hown6 := ownsMap_of Hown.out ((hy2.block mb hmlt).trans (Hz2.out.block mb Hm.out.lt))
    have Hown6 := Lib.hid hown6
    have Hy := Lib.hid hy2
    have Hmlt := Lib.hid hmlt
    clear hown6 hy2 hmlt
    go_wp2_with (first | (at_mapUpdate; refine wpList_mapUpdate_in _ rfl _ _ _ 68 rfl 9 84 key9 Try.underlying68 ptrR mb L.length D rfl Hown6.out Hroom.out _ _ (keyL x) rfl rfl Hkx.out (ptrD (some f0.B)) [] (ptrR_v (some f0.B)) ?_; intro w3 hown7 hturn2))
    have hsz3 : w3.heap.size = wy.heap.size := by
      obtain ⟨es, clock, es', clock', hb, rfl⟩ := hturn2
      simp [setBlock]
    have HK3 : ∀ k, k < wa.heap.size → k ≠ mb → w3.heap[k]? = wa.heap[k]? := fun k hk hne => (turned_other hturn2 (Nat.lt_of_lt_of_le hk Hy.out.size) hne).trans (Hy.out.block k hk)
    have hput : MapOk mb (upd L f0) w3 := MapOk.put (f' := f0) Hown6.out HDk.out Hsz.out (by rw [e1]; exact hxm) (by rw [e1]; exact hown7)
    have hbl0 : ∀ k ∈ f0.bl, k = f0.B := fun k hk => by
      rcases Fl.mem_bl.1 hk with h | h
      · exact h
      · rw [e3] at h; exact absurd h (by simp [Value.ownBlock])
    have hmB : mb < f0.B := Nat.lt_of_lt_of_le Hm.out.lt Hnz.out
    have hbB : b < f0.B := Nat.lt_of_lt_of_le (lt_of_block Hb.out) Hnz.out
    have hfo0 : Fok w3 f0 := ⟨by rw [e3, e5]; exact (HK3 f0.B (lt_of_block Hnb.out) (by omega)).trans Hnb.out, by rw [e3, e4]; exact ⟨by simp [LF], .inl ⟨rfl, rfl⟩⟩, by rw [e5]; exact Nat.zero_le _⟩
    have hd3 : Dev (Gr S w1 w3) b h1 (upd L f0) w3 := ((HD.out.below Hz2.out).mono (S' := Gr S w1 w3) (fun k hk => .inl hk)).put (by rw [e1]; exact hx) hfo0 (fun mb2 hb9 => by
      have : mb2 = mb := by
        have h8 := hb9.symm.trans ((Hz2.out.block b (lt_of_block Hb.out)).trans Hb.out)
        simp only [hdV, Option.some.injEq, Obj.cells.injEq, Array.mk.injEq, List.cons.injEq, Value.map.injEq] at h8
        exact h8.1.2.1
      subst this
      exact ⟨hput, HK3, fun h => by have := hbl0 _ h; omega, fun h => by have := hbl0 _ h; omega⟩) (by rw [e3]; simp [Value.ownBlock])
      (fun g hg k hk hk2 => by have := hbl0 k hk; have := (HD.out.fo g hg).lt hk2; have := Hnz.out; omega)
      (fun k hk => .inr (by have := hbl0 k hk; subst this; exact ⟨Hnz.out, by rw [hsz3]; exact Nat.lt_of_lt_of_le (lt_of_block Hnb.out) Hy.out.size⟩))
    have hkp3 : Kept S w1 w3 := (Kept.of_below Hz2.out).trans' ⟨hturn2.grown.os.trans Hy.out.os, hturn2.grown.tape.trans Hy.out.tape, hturn2.grown.output.trans Hy.out.output, by rw [hsz3]; exact Hy.out.size, fun k hk hn => HK3 k hk (fun e => hn (e ▸ hSm))⟩
    have hf0 : f0 ∈ upd L f0 := by rw [upd_none (by rw [e1]; exact hl)]; simp
    have HD3 := Lib.hid hd3
    have HKp := Lib.hid hkp3
    have Hbx := Lib.hid hfo0.box
    have Hrow := Lib.hid hfo0.row
    have Hbu := Lib.hid ((hkp3.block r (lt_of_block Hb2.out) (fun e => hr.s (by exact e))).trans Hb2.out)
    have Hul := Lib.hid (show LAt 1 bV w3.drew u c from hu w3 (hK.trans' hkp3))
    obtain ⟨pu, lu, cu, hu9⟩ := Hul0.out
    have Hv := Lib.hid (show f0.v = .slice none f0.d.length 0 by rw [e3, e4]; rfl)
    have Hu := Lib.hid hu9
    have Hne := Lib.hid (show f0.v.ownBlock ≠ some f0.B by rw [e3]; simp [Value.ownBlock])
    have hle : f0.d.length ≤ 16777216 := by rw [e4]; exact Nat.zero_le _
    have E := Lib.hid (show f0.nm = x ∧ f0.d = [] ∧ f0.s = 0 from ⟨e1, e4, e5⟩)
    clear hown7 hturn2 hd3 hkp3 hfo0 hput HK3 hbl0 e1 e3 e4 e5 hu9 hsz3 hl
    go_wp2_with fail
    simp only [Act.put]
    have hRL : ∃ Rs : List (Value → World → Prop), Rs = [K3.PureV (.pointer (some ⟨f0.B, 0, none⟩)),
        K3.PureV (.pointer (some ⟨f0.B, 0, none⟩)),
        K3.PureV (.pointer (some ⟨f0.B, 0, none⟩)),
        K3.PureV (.pointer (some ⟨f0.B, 0, none⟩)),
        ApE w3.drew f0,
        K3.PureV (u),
        ApW w3.drew f0 c,
        K3.PureV (.pointer (some ⟨f0.B, 0, none⟩)),
        K3.PureV (.pointer (some ⟨f0.B, 0, none⟩)),
        ApS w3.drew f0 c] := ⟨_, rfl⟩
    obtain ⟨Rs, hRs⟩ := hRL
    refine K3.wp_region_rel2 0 (Nat.zero_le _) (K3.RL Rs) [2, 2, 2, 2, 1, 2, 1, 2, 2, 1] [1, 1, 1, 1, 1, 1, 2, 1, 1, 2] [[], [], [], [], [], [], [4], [], [], [4, 6]] (by kernel_rfl) (by kernel_rfl) (K3.RL.st1 (by rw [hRs]; exact K3.st1_cons (K3.PureV.st1 _) (K3.st1_cons (K3.PureV.st1 _) (K3.st1_cons (K3.PureV.st1 _) (K3.st1_cons (K3.PureV.st1 _) (K3.st1_cons (ApE.st1 _ _) (K3.st1_cons (K3.PureV.st1 _) (K3.st1_cons (ApW.st1 _ _ _) (K3.st1_cons (K3.PureV.st1 _) (K3.st1_cons (K3.PureV.st1 _) (K3.st1_cons (ApS.st1 _ _ _) (K3.st1_nil)))))))))))) (K3.RL.st2 (by rw [hRs]; exact K3.st2_cons (K3.PureV.st2 _ _ _) (K3.st2_cons (K3.PureV.st2 _ _ _) (K3.st2_cons (K3.PureV.st2 _ _ _) (K3.st2_cons (K3.PureV.st2 _ _ _) (K3.st2_skip (K3.st2_cons (K3.PureV.st2 _ _ _) (K3.st2_skip (K3.st2_cons (K3.PureV.st2 _ _ _) (K3.st2_cons (K3.PureV.st2 _ _ _) (K3.st2_skip (K3.st2_nil)))))))))))) ?_ ?_ ?_
    · intro i o d hi hd
      have hmem := List.mem_of_getElem? hi
      simp only [List.mem_cons, List.not_mem_nil, or_false] at hmem
      rcases hmem with rfl | rfl | rfl | rfl | rfl | rfl | rfl | rfl | rfl | rfl <;> simp at hd <;> (subst hd; simp)
    · refine K3.rel_start (Φ := K3.Hop _ _ _ _ _ _ _) ?_
      refine K3.rel_cons (Φ := K3.Hop _ _ _ _ _ _ _) (k := 0) ?_ ?_
      · intro fa fw hfB hfN hfE hfk hft
        have k3 : fa.eval (.tmp 3) = .pointer (some ⟨f0.B, 0, none⟩) := hft 3 (K3.mem_looks (by kernel_rfl)) (K3.noneed (by kernel_rfl))
        rw [hRs]
        refine K3.hop_plain rfl ?_
        refine K3.out_move rfl ?_
        exact ⟨k3, Below.refl _ _⟩
      refine K3.rel_cons (Φ := K3.Hop _ _ _ _ _ _ _) (k := 1) ?_ ?_
      · intro fa fw hfB hfN hfE hfk hft
        have k3 : fa.eval (.tmp 3) = .pointer (some ⟨f0.B, 0, none⟩) := hft 3 (K3.mem_looks (by kernel_rfl)) (K3.noneed (by kernel_rfl))
        rw [hRs]
        refine K3.hop_plain rfl ?_
        refine K3.out_move rfl ?_
        exact ⟨k3, Below.refl _ _⟩
      refine K3.rel_cons (Φ := K3.Hop _ _ _ _ _ _ _) (k := 2) ?_ ?_
      · intro fa fw hfB hfN hfE hfk hft
        have k21 : fa.eval (.tmp 21) = (.pointer (some ⟨f0.B, 0, none⟩)) := by have := hfk 1 (K3.mem_needs (by kernel_rfl)) _ rfl; rw [hRs] at this; exact this
        rw [hRs]
        refine K3.hop_plain rfl ?_
        generalize fa.eval = ρ at *
        exact K3.out_run (v := .pointer (some ⟨f0.B, 0, none⟩)) (w' := fw) (by simp [execOp, k21, go_sem]) ⟨rfl, Below.refl _ _⟩
      refine K3.rel_cons (Φ := K3.Hop _ _ _ _ _ _ _) (k := 3) ?_ ?_
      · intro fa fw hfB hfN hfE hfk hft
        have k22 : fa.eval (.tmp 22) = (.pointer (some ⟨f0.B, 0, none⟩)) := by have := hfk 2 (K3.mem_needs (by kernel_rfl)) _ rfl; rw [hRs] at this; exact this
        rw [hRs]
        refine K3.hop_plain rfl ?_
        generalize fa.eval = ρ at *
        exact K3.out_run (v := .pointer (some ⟨f0.B, 0, none⟩)) (w' := fw) (by simp [execOp, k22, go_sem]) ⟨rfl, Below.refl _ _⟩
      refine K3.rel_cons (Φ := K3.Hop _ _ _ _ _ _ _) (k := 4) ?_ ?_
      · intro fa fw hfB hfN hfE hfk hft
        have hE : Below w3.drew.heap.size w3.drew fw := hfE (by kernel_rfl)
        have k23 : fa.eval (.tmp 23) = (.pointer (some ⟨f0.B, 0, none⟩)) := by have := hfk 3 (K3.mem_needs (by kernel_rfl)) _ rfl; rw [hRs] at this; exact this
        rw [hRs]
        refine K3.hop_plain rfl ?_
        have c9 := block_cell ((hE.block _ (lt_of_block Hbx.out)).trans Hbx.out) 0
        exact out_load3 rfl k23 (by rw [Hv.out] at c9 ⊢; simp [go_sem, c9]) ⟨⟨rfl, hE⟩, Below.refl _ _⟩
      refine K3.rel_cons (Φ := K3.Hop _ _ _ _ _ _ _) (k := 5) ?_ ?_
      · intro fa fw hfB hfN hfE hfk hft
        have hE : Below w3.drew.heap.size w3.drew fw := hfE (by kernel_rfl)
        have k2 : fa.eval (.tmp 2) = .pointer (some ⟨r, 0, none⟩) := hft 2 (K3.mem_looks (by kernel_rfl)) (K3.noneed (by kernel_rfl))
        rw [hRs]
        refine K3.hop_plain rfl ?_
        have c9 := block_cell ((hE.block _ (lt_of_block Hbu.out)).trans Hbu.out) 0
        exact out_load3 rfl k2 (by rw [Hu.out] at c9 ⊢; simp [go_sem, c9]) ⟨rfl, Below.refl _ _⟩
      refine K3.rel_cons (Φ := K3.Hop _ _ _ _ _ _ _) (k := 6) ?_ ?_
      · intro fa fw hfB hfN hfE hfk hft
        have k24 : (ApE w3.drew f0) (fa.eval (.tmp 24)) fw := by have := hfk 4 (K3.mem_needs (by kernel_rfl)) _ rfl; rw [hRs] at this; exact this
        have k25 : fa.eval (.tmp 25) = (u) := by have := hfk 5 (K3.mem_needs (by kernel_rfl)) _ rfl; rw [hRs] at this; exact this
        rw [hRs]
        refine K3.hop_plain rfl ?_
        obtain ⟨hv0, hb0⟩ := k24
        obtain ⟨v', w', hr, ho, hg, ha⟩ := run_append_gen2 eltB fw 0 _ _ _ _ c (own_of Hrow.out (fun g hg => hb0.block g (own_lt0 Hrow.out hg))) (Hul.out.below hb0) (by omega) (by unfold maxLen; omega) (Nat.zero_le _)
        exact out_append_k3 (.tmp 24) (.tmp 25) 40 rfl hv0 k25 hr ⟨ApW.of_append (own_of Hrow.out (fun g hg => hb0.block g (own_lt0 Hrow.out hg))) hb0 ho hg ha, ⟨hg.os, hg.tape, hg.output, hg.size, fun k hk => absurd hk (Nat.not_lt_zero k)⟩⟩
      refine K3.rel_cons (Φ := K3.Hop _ _ _ _ _ _ _) (k := 7) ?_ ?_
      · intro fa fw hfB hfN hfE hfk hft
        have k20 : fa.eval (.tmp 20) = (.pointer (some ⟨f0.B, 0, none⟩)) := by have := hfk 0 (K3.mem_needs (by kernel_rfl)) _ rfl; rw [hRs] at this; exact this
        rw [hRs]
        refine K3.hop_plain rfl ?_
        generalize fa.eval = ρ at *
        exact K3.out_run (v := .pointer (some ⟨f0.B, 0, none⟩)) (w' := fw) (by simp [execOp, k20, go_sem]) ⟨rfl, Below.refl _ _⟩
      refine K3.rel_cons (Φ := K3.Hop _ _ _ _ _ _ _) (k := 8) ?_ ?_
      · intro fa fw hfB hfN hfE hfk hft
        have k27 : fa.eval (.tmp 27) = (.pointer (some ⟨f0.B, 0, none⟩)) := by have := hfk 7 (K3.mem_needs (by kernel_rfl)) _ rfl; rw [hRs] at this; exact this
        rw [hRs]
        refine K3.hop_plain rfl ?_
        generalize fa.eval = ρ at *
        exact K3.out_run (v := .pointer (some ⟨f0.B, 0, none⟩)) (w' := fw) (by simp [execOp, k27, go_sem]) ⟨rfl, Below.refl _ _⟩
      refine K3.rel_cons (Φ := K3.Hop _ _ _ _ _ _ _) (k := 9) ?_ ?_
      · intro fa fw hfB hfN hfE hfk hft
        have k28 : fa.eval (.tmp 28) = (.pointer (some ⟨f0.B, 0, none⟩)) := by have := hfk 8 (K3.mem_needs (by kernel_rfl)) _ rfl; rw [hRs] at this; exact this
        have k26 : (ApW w3.drew f0 c) (fa.eval (.tmp 26)) fw := by have := hfk 6 (K3.mem_needs (by kernel_rfl)) _ rfl; rw [hRs] at this; exact this
        rw [hRs]
        refine K3.hop_plain rfl ?_
        obtain ⟨p7, n7, c7, h7⟩ := own_slice k26.row
        have hst := fun v2 => ApS.of_store (v2 := v2) k26 Hbx.out Hne.out
        rw [h7] at hst
        exact out_store29 rfl k28 h7 ((k26.blk _ (lt_of_block Hbx.out) Hne.out).trans Hbx.out) (by simp) (hst _)
      exact K3.rel_nil
    · intro fa fw hfB hfy hff hfs hfd
      rw [hRs] at hfy
      have k98 : ∃ v99, ApS w3.drew f0 c v99 fw := ⟨_, hfy 9 _ rfl (K3.unkilled (by decide))⟩
      obtain ⟨v99, k99⟩ := k98
      have e := K3.rel_frame [20, 21, 22, 23, 24, 25, 26, 27, 28] (by kernel_rfl) hff hfs hfd
      simp only [List.foldl] at e
      clear hfy hff hfs hfd 
      generalize fa.tmps.getD 20 undef = x20 at e
      generalize fa.tmps.getD 21 undef = x21 at e
      generalize fa.tmps.getD 22 undef = x22 at e
      generalize fa.tmps.getD 23 undef = x23 at e
      generalize fa.tmps.getD 24 undef = x24 at e
      generalize fa.tmps.getD 25 undef = x25 at e
      generalize fa.tmps.getD 26 undef = x26 at e
      generalize fa.tmps.getD 27 undef = x27 at e
      generalize fa.tmps.getD 28 undef = x28 at e
      simp [List.setIfInBounds_toArray, List.set_cons_succ, List.set_cons_zero] at e
      subst e
      obtain ⟨f', e1, e2, e3, e4, e5⟩ := k99.dev (HD3.out.of_blocks (fun _ _ _ => rfl)) hf0
      have hfin : Apd L x c (upd (upd L f0) f') ∧ Dev (Gr S w1 fw) b h1 (upd (upd L f0) f') fw ∧ Kept S w1 fw := ⟨⟨f', e1.trans E.out.1, by rw [e2, HX.out.1, E.out.2.1], by rw [e3, HX.out.2, E.out.2.2], upd_upd e1.symm⟩, e4.mono (Gr.step (b := w3) HKp.out.size e5.size), HKp.out.trans ((show Kept (Gr S w1 w3) w3 w3.drew from ⟨rfl, rfl, rfl, Nat.le_refl _, fun _ _ _ => rfl⟩).trans' e5)⟩
      have Hfin := Lib.hid hfin
      clear hfin e1 e2 e3 e4 e5 k99
      go_wp2_with fail
      exact bodyPost_end (v := .tuple #[]) (by simp [results, Try.results68]) rfl ⟨rfl, _, Hfin.out.1, Hfin.out.2.1, Hfin.out.2.2⟩
end Go.Proofs.Ytbdlmdmbaajcmaa
