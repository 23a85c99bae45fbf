/- Walks: what the acts do: sync, cut, remove, rename. -/
import Derived.Test.YtfmcemedaehcoaaDb
namespace Go.Proofs.Ytfmcemedaehcoaa
set_option linter.unusedVariables false
set_option linter.unusedSimpArgs false
open Go.ChangeShapes Go.WideShapes Go.ChangeAt Go.RowKit

def syncF (f : Fl) : Fl := ⟨f.nm, f.B, f.v, f.d, f.d.length⟩
/-- A block of one cell, which no device has. -/
structure BoxV (S : Nat → Prop) (w : World) (p : Nat) (t : TypeId) (v : Value) : Prop where
  b : w.heap[p]? = some (.cells #[v] t (0, 0))
  s : ¬ S p
theorem BoxV.kept {S : Nat → Prop} {w w' : World} {p : Nat} {t : TypeId} {v : Value} (h : BoxV S w p t v) (hk : Kept S w w') : w'.heap[p]? = some (.cells #[v] t (0, 0)) := (hk.block p (lt_of_block h.b) h.s).trans h.b
theorem setF_write {S : Nat → Prop} {b : Nat} {h : Hd} {L : List Fl} {w wz w' : World} {f f' : Fl} (d : Dev S b h L w) (hf : f ∈ L) (hn : f'.nm = f.nm) (hB : f'.B = f.B) (ho : Fok w' f') (hz : Below w.heap.size w wz) (hs : wz.heap.size ≤ w'.heap.size) (h1 : w'.os = wz.os ∧ w'.tape = wz.tape ∧ w'.output = wz.output)
    (e : ∀ k, k < w.heap.size → k ∉ f.bl → w'.heap[k]? = wz.heap[k]?) (hv : ∀ g, f'.v.ownBlock = some g → f.v.ownBlock = some g) : Dev (Gr S w w') b h (upd L f') w' ∧ Kept S w w' :=
  ⟨d.setF hf hn hB ho (Nat.le_trans hz.size hs) (fun k hk hx => (e k hk hx).trans (hz.block k hk)) (fun g hg => .inl (hv g hg)),
    ⟨h1.1.trans hz.os, h1.2.1.trans hz.tape, h1.2.2.trans hz.output, Nat.le_trans hz.size hs, fun k hk hS => (e k hk (fun hx => hS (d.ss f hf k hx))).trans (hz.block k hk)⟩⟩
set_option maxRecDepth 100000 in
set_option maxHeartbeats 1000000 in
theorem sync1 {S : Nat → Prop} {b p : Nat} {L : List Fl} {w : World} {f : Fl} (hf : f ∈ L) (hp : BoxV S w p 64 (.pointer (some ⟨f.B, 0, none⟩))) : Does S b L (fun L2 => L2 = upd L (syncF f)) 48 #[.pointer (some ⟨p, 0, none⟩)] w := by
  intro w1 h1 d hK
  have hbp := hp.kept hK
  have hfo := d.fo f hf
  have hbf := hfo.box
  obtain ⟨pv, cv, hv⟩ := row_shape hfo
  rw [hv] at hbf
  have H0 := Lib.hid (fun w9 (h9 : Below w1.heap.size w1 w9) => (by have e := (h9.cell (p := ⟨p, 0, none⟩) (lt_of_block hbp)).trans (block_cell hbp 0); simp [go_sem, e] : (loadVar 64 ⟨p, 0, none⟩).run Try.prog w9 = .ok (.pointer (some ⟨f.B, 0, none⟩)) w9))
  have H1 := Lib.hid (fun w9 (h9 : Below w1.heap.size w1 w9) => (by have e := (h9.cell (p := ⟨f.B, 0, none⟩) (lt_of_block hbf)).trans (block_cell hbf 0); simp [go_sem, e] : (loadVar 29 ⟨f.B, 0, none⟩).run Try.prog w9 = .ok (.slice pv f.d.length cv) w9))
  have Hbf := Lib.hid hbf
  have HD := Lib.hid d
  have Hv := Lib.hid hv
  clear d hbp hfo hbf hv
  go_enter Try.func48, Try.ntmps48
  go_wp2_with fail
  refine wp_region_class_tail (Below w1.heap.size w1) 8 (by kernel_rfl) (by kernel_rfl) (Below.refl _ _).drew ?_
  simp only [List.take_succ_cons, List.take_zero, List.drop_succ_cons, List.drop_zero]
  repeat (go_big_quiet_step (first | (intro _; rfl)))
  refine wpQuiet_load_at rfl 64 (.tmp 0) rfl ⟨p, 0, none⟩ rfl (.pointer (some ⟨f.B, 0, none⟩)) H0.out ?_
  simp only [Act.put, List.setIfInBounds_toArray, List.set_cons_succ, List.set_cons_zero]
  repeat (go_big_quiet_step (first | (intro _; rfl)))
  refine wpQuiet_load_at rfl 64 (.tmp 0) rfl ⟨p, 0, none⟩ rfl (.pointer (some ⟨f.B, 0, none⟩)) H0.out ?_
  simp only [Act.put, List.setIfInBounds_toArray, List.set_cons_succ, List.set_cons_zero]
  repeat (go_big_quiet_step (first | (intro _; rfl)))
  refine wpQuiet_load_at rfl 29 (.tmp 4) rfl ⟨f.B, 0, none⟩ rfl (.slice pv f.d.length cv) H1.out ?_
  simp only [Act.put, List.setIfInBounds_toArray, List.set_cons_succ, List.set_cons_zero]
  repeat (go_big_quiet_step (first | (intro _; rfl)))
  refine wpQuiet_nil ?_
  intro wz hz
  have hb2 := (hz.block f.B (lt_of_block Hbf.out)).trans Hbf.out
  have c1 := block_cell hb2 1
  have f1 := block_free hb2 1
  have hfin := setF_write (w' := wz.setCell ⟨f.B, 1, none⟩ (.int .i64 (f.d.length : Nat))) (f' := syncF f) HD.out hf rfl rfl
    ⟨by have h := block_set (i := 1) (u := .int .i64 (f.d.length : Nat)) hb2; rw [← Hv.out] at h; exact h, own_of (HD.out.fo f hf).row (fun g hg => (set_other _ _ _ _ _ (fun e => by
      obtain ⟨mb, _, _, _, h4, _⟩ := HD.out.f
      exact (h4 f hf).2.2 (by rw [← e]; exact hg))).trans (hz.block g (own_lt0 (HD.out.fo f hf).row hg))), Nat.le_refl _⟩ hz (by simp [World.setCell]) ⟨rfl, rfl, rfl⟩ (fun k _ hk => set_other _ _ _ _ _ (fun e => hk (Fl.mem_bl.2 (.inl e)))) (fun g hg => hg)
  have Hfin := Lib.hid hfin
  clear hfin hz hb2
  go_wp2_with fail
  exact bodyPost_end (v := .tuple #[]) (by simp [results, Try.results48]) rfl ⟨rfl, _, rfl, Hfin.out.1, Hfin.out.2⟩

def cutF (n : Nat) (f : Fl) : Fl := ⟨f.nm, f.B, uptoV f.v (min n f.d.length), f.d.take (min n f.d.length), min f.s (min n f.d.length)⟩
set_option maxRecDepth 100000 in
set_option maxHeartbeats 2000000 in
theorem cut1 {S : Nat → Prop} {b p q : Nat} {L : List Fl} {w : World} {f : Fl} (n : Nat) (hn : n ≤ 9223372036854775807) (hf : f ∈ L) (hb : f.d.length ≤ 16777216) (hp : BoxV S w p 64 (.pointer (some ⟨f.B, 0, none⟩))) (hq : BoxV S w q 3 (.int .i64 (n : Nat))) : Does S b L (fun L2 => L2 = upd L (cutF n f)) 49 #[.pointer (some ⟨p, 0, none⟩), .pointer (some ⟨q, 0, none⟩)] w := by
  intro w1 h1 d hK
  have hbp := hp.kept hK
  have hbq := hq.kept hK
  have hfo := d.fo f hf
  have hbf := hfo.box
  have hle := hfo.le
  obtain ⟨pv, cv, hv⟩ := row_shape hfo
  rw [hv] at hbf
  have Hbp := Lib.hid hbp
  obtain ⟨m, hm⟩ : ∃ m, m = min n f.d.length := ⟨_, rfl⟩
  have hmle : m ≤ f.d.length := by omega
  obtain ⟨p1, c1, hsl, hrow1, hown1, hup⟩ := own_upto (n := m) hfo.row hmle
  rw [hv] at hsl
  have Hsl := Lib.hid hsl
  have Hrow1 := Lib.hid hrow1
  have Hown1 := Lib.hid hown1
  have Hup := Lib.hid hup
  have H0 := Lib.hid (fun w9 (h9 : Below w1.heap.size w1 w9) => (by have e := (h9.cell (p := ⟨p, 0, none⟩) (lt_of_block hbp)).trans (block_cell hbp 0); simp [go_sem, e] : (loadVar 64 ⟨p, 0, none⟩).run Try.prog w9 = .ok (.pointer (some ⟨f.B, 0, none⟩)) w9))
  have H2 := Lib.hid (fun w9 (h9 : Below w1.heap.size w1 w9) => (by have e := (h9.cell (p := ⟨q, 0, none⟩) (lt_of_block hbq)).trans (block_cell hbq 0); simp [go_sem, e] : (loadVar 3 ⟨q, 0, none⟩).run Try.prog w9 = .ok (.int .i64 (n : Nat)) w9))
  have H1 := Lib.hid (fun w9 (h9 : Below w1.heap.size w1 w9) => (by have e := (h9.cell (p := ⟨f.B, 0, none⟩) (lt_of_block hbf)).trans (block_cell hbf 0); simp [go_sem, e] : (loadVar 29 ⟨f.B, 0, none⟩).run Try.prog w9 = .ok (.slice pv f.d.length cv) w9))
  have Hbf := Lib.hid hbf
  have HD := Lib.hid d
  have Hv := Lib.hid hv
  have Hm := Lib.hid hm
  have hms : m = n ∨ (m = f.d.length ∧ ¬ n ≤ f.d.length) := by omega
  have Hp := Lib.hid hp
  have HpB : Hid (p ≠ f.B) := Lib.hid (fun e => hp.s (e ▸ d.ss f hf f.B (Fl.mem_bl.2 (.inl rfl)) |> fun h => hp.s (by rw [e]; exact d.ss f hf f.B (Fl.mem_bl.2 (.inl rfl))) |>.elim))
  clear d hbp hbq hfo hbf hv hsl hrow1 hown1 hup hm
  rcases hms with e | ⟨e, ne⟩
  · subst e
    have k1 : (m : Int) ≤ (f.d.length : Int) := by omega
    by_cases hs : f.s ≤ m
    · have k3 : (f.s : Int) ≤ (m : Int) := by omega
      go_enter Try.func49, Try.ntmps49
      go_wp2_with fail
      refine wp_region_class_tail (Below w1.heap.size w1) 15 (by kernel_rfl) (by kernel_rfl) (Below.refl _ _).drew ?_
      simp only [List.take_succ_cons, List.take_zero, List.drop_succ_cons, List.drop_zero]
      repeat (go_big_quiet_step (first | (intro _; rfl)))
      refine wpQuiet_load_at rfl 64 (.tmp 0) rfl ⟨p, 0, none⟩ rfl (.pointer (some ⟨f.B, 0, none⟩)) H0.out ?_
      simp only [Act.put, List.setIfInBounds_toArray, List.set_cons_succ, List.set_cons_zero]
      repeat (go_big_quiet_step (first | (intro _; rfl)))
      refine wpQuiet_load_at rfl 64 (.tmp 0) rfl ⟨p, 0, none⟩ rfl (.pointer (some ⟨f.B, 0, none⟩)) H0.out ?_
      simp only [Act.put, List.setIfInBounds_toArray, List.set_cons_succ, List.set_cons_zero]
      repeat (go_big_quiet_step (first | (intro _; rfl)))
      refine wpQuiet_load_at rfl 29 (.tmp 5) rfl ⟨f.B, 0, none⟩ rfl (.slice pv f.d.length cv) H1.out ?_
      simp only [Act.put, List.setIfInBounds_toArray, List.set_cons_succ, List.set_cons_zero]
      repeat (go_big_quiet_step (first | (intro _; rfl)))
      refine wpQuiet_load_at rfl 3 (.tmp 1) rfl ⟨q, 0, none⟩ rfl (.int .i64 (m : Nat)) H2.out ?_
      simp only [Act.put, List.setIfInBounds_toArray, List.set_cons_succ, List.set_cons_zero]
      repeat (go_big_quiet_step (first | (intro _; rfl)))
      refine wpQuiet_load_at rfl 64 (.tmp 0) rfl ⟨p, 0, none⟩ rfl (.pointer (some ⟨f.B, 0, none⟩)) H0.out ?_
      simp only [Act.put, List.setIfInBounds_toArray, List.set_cons_succ, List.set_cons_zero]
      repeat (go_big_quiet_step (first | (intro _; rfl)))
      refine wpQuiet_load_at rfl 29 (.tmp 10) rfl ⟨f.B, 0, none⟩ rfl (.slice pv f.d.length cv) H1.out ?_
      simp only [Act.put, List.setIfInBounds_toArray, List.set_cons_succ, List.set_cons_zero]
      repeat (go_big_quiet_step (first | (intro _; rfl)))
      refine wpQuiet_upto_at rfl 29 (.tmp 6) (.tmp 13) rfl (.slice pv f.d.length cv) (.int .i64 (m : Nat)) (.slice p1 (m) c1) rfl rfl Hsl.out ?_
      simp only [Act.put, List.setIfInBounds_toArray, List.set_cons_succ, List.set_cons_zero]
      repeat (go_big_quiet_step (first | (intro _; rfl)))
      refine wpQuiet_nil ?_
      intro wz hz
      have hb2 := (hz.block f.B (lt_of_block Hbf.out)).trans Hbf.out
      have c0 := block_cell hb2 0
      have f0 := block_free hb2 0
      have hb3 := block_set (i := 0) (u := .slice p1 (m) c1) hb2
      have hbp3 : (wz.setCell ⟨f.B, 0, none⟩ (.slice p1 (m) c1)).heap[p]? = some (.cells #[.pointer (some ⟨f.B, 0, none⟩)] 64 (0, 0)) := (set_other _ _ _ _ _ HpB.out).trans ((hz.block p (lt_of_block Hbp.out)).trans Hbp.out)
      have Hz := Lib.hid hz
      have hrw := own_of (w' := wz.setCell ⟨f.B, 0, none⟩ (.slice p1 (m) c1)) Hrow1.out (fun g hg => (set_other _ _ _ _ _ (fun e => by
        obtain ⟨mb, _, _, _, h4, _⟩ := HD.out.f
        exact (h4 f hf).2.2 (by rw [← e]; exact Hown1.out g hg))).trans (hz.block g (own_lt0 Hrow1.out hg)))
      have Hrw := Lib.hid hrw
      have Hsz : Hid ((wz.setCell ⟨f.B, 0, none⟩ (.slice p1 (m) c1)).heap.size = wz.heap.size) := Lib.hid (by simp [World.setCell])
      have Hoo := Lib.hid (show ∀ k, k ≠ f.B → (wz.setCell ⟨f.B, 0, none⟩ (.slice p1 (m) c1)).heap[k]? = wz.heap[k]? from fun k hk => set_other _ _ _ _ _ hk)
      clear hz hb2 hrw
      go_wp2_with fail
      have Hoos : Hid ((wz.setCell ⟨f.B, 0, none⟩ (.slice p1 (m) c1)).os = wz.os ∧ (wz.setCell ⟨f.B, 0, none⟩ (.slice p1 (m) c1)).tape = wz.tape ∧ (wz.setCell ⟨f.B, 0, none⟩ (.slice p1 (m) c1)).output = wz.output) := Lib.hid ⟨rfl, rfl, rfl⟩
      generalize hws : wz.setCell ⟨f.B, 0, none⟩ (.slice p1 (m) c1) = ws at *
      clear hws c0 f0
      have H3 := Lib.hid (fun w9 (h9 : Below ws.heap.size ws w9) => (by have e := (h9.cell (p := ⟨p, 0, none⟩) (lt_of_block hbp3)).trans (block_cell hbp3 0); simp [go_sem, e] : (loadVar 64 ⟨p, 0, none⟩).run Try.prog w9 = .ok (.pointer (some ⟨f.B, 0, none⟩)) w9))
      have H4 := Lib.hid (fun w9 (h9 : Below ws.heap.size ws w9) => (by have e := (h9.cell (p := ⟨f.B, 0, none⟩) (lt_of_block hb3)).trans (block_cell hb3 0); simp [go_sem, e] : (loadVar 29 ⟨f.B, 0, none⟩).run Try.prog w9 = .ok (.slice p1 (m) c1) w9))
      have H5 := Lib.hid (fun w9 (h9 : Below ws.heap.size ws w9) => (by have e := (h9.cell (p := ⟨f.B, 1, none⟩) (lt_of_block hb3)).trans (block_cell hb3 1); simp [go_sem, e] : (loadVar 3 ⟨f.B, 1, none⟩).run Try.prog w9 = .ok (.int .i64 (f.s : Nat)) w9))
      have Hb3 := Lib.hid hb3
      clear hbp3 hb3
      refine wp_region_class_tail (Below ws.heap.size ws) 13 (by kernel_rfl) (by kernel_rfl) (Below.refl _ _).drew ?_
      simp only [List.take_succ_cons, List.take_zero, List.drop_succ_cons, List.drop_zero]
      repeat (go_big_quiet_step (first | (intro _; rfl)))
      refine wpQuiet_load_at rfl 64 (.tmp 0) rfl ⟨p, 0, none⟩ rfl (.pointer (some ⟨f.B, 0, none⟩)) H3.out ?_
      simp only [Act.put, List.setIfInBounds_toArray, List.set_cons_succ, List.set_cons_zero]
      repeat (go_big_quiet_step (first | (intro _; rfl)))
      refine wpQuiet_load_at rfl 64 (.tmp 0) rfl ⟨p, 0, none⟩ rfl (.pointer (some ⟨f.B, 0, none⟩)) H3.out ?_
      simp only [Act.put, List.setIfInBounds_toArray, List.set_cons_succ, List.set_cons_zero]
      repeat (go_big_quiet_step (first | (intro _; rfl)))
      refine wpQuiet_load_at rfl 3 (.tmp 20) rfl ⟨f.B, 1, none⟩ rfl (.int .i64 (f.s : Nat)) H5.out ?_
      simp only [Act.put, List.setIfInBounds_toArray, List.set_cons_succ, List.set_cons_zero]
      repeat (go_big_quiet_step (first | (intro _; rfl)))
      refine wpQuiet_load_at rfl 64 (.tmp 0) rfl ⟨p, 0, none⟩ rfl (.pointer (some ⟨f.B, 0, none⟩)) H3.out ?_
      simp only [Act.put, List.setIfInBounds_toArray, List.set_cons_succ, List.set_cons_zero]
      repeat (go_big_quiet_step (first | (intro _; rfl)))
      refine wpQuiet_load_at rfl 29 (.tmp 24) rfl ⟨f.B, 0, none⟩ rfl (.slice p1 (m) c1) H4.out ?_
      simp only [Act.put, List.setIfInBounds_toArray, List.set_cons_succ, List.set_cons_zero]
      repeat (go_big_quiet_step (first | (intro _; rfl)))
      refine wpQuiet_nil ?_
      intro wy hy
      have hb5 := (hy.block f.B (lt_of_block Hb3.out)).trans Hb3.out
      have d1 := block_cell hb5 1
      have g1 := block_free hb5 1
      have hlen : (f.d.take (m)).length = m := by rw [List.length_take]; omega
      have hmm : min m f.d.length = m := by have := Hm.out; omega
      have hss : min f.s (m) = f.s := by omega
      have hcf : cutF m f = ⟨f.nm, f.B, .slice p1 (m) c1, f.d.take (m), f.s⟩ := by unfold cutF; rw [hmm, hss, Hup.out]
      have hrow5 := own_of (w' := wy.setCell ⟨f.B, 1, none⟩ (.int .i64 (f.s : Nat))) Hrw.out (fun g hg => (set_other _ _ _ _ _ (fun e => by
        obtain ⟨mb, _, _, _, h4, _⟩ := HD.out.f
        exact (h4 f hf).2.2 (by rw [← e]; exact Hown1.out g hg))).trans (hy.block g (own_lt0 Hrw.out hg)))
      have hfin := setF_write (wz := wz) (w' := wy.setCell ⟨f.B, 1, none⟩ (.int .i64 (f.s : Nat))) (f' := cutF m f) HD.out hf rfl rfl
        ⟨by rw [hcf]; exact block_set (i := 1) (u := .int .i64 (f.s : Nat)) hb5, by rw [hcf]; show World.ownsRow _ 0 5 1 (.slice p1 (m) c1) (f.d.take (m)).length _; rw [hlen]; exact hrow5, by rw [hcf]; show f.s ≤ (f.d.take (m)).length; omega⟩ Hz.out (by have h1 := hy.size; have h2 := Hsz.out; simp [World.setCell]; omega)
        ⟨hy.os.trans Hoos.out.1, hy.tape.trans Hoos.out.2.1, hy.output.trans Hoos.out.2.2⟩ (fun k hkl hk => by
          have hkB : k ≠ f.B := fun e => hk (Fl.mem_bl.2 (.inl e))
          rw [set_other _ _ _ _ _ hkB]
          exact (hy.block k (by have h2 := Hsz.out; have h3 := Hz.out.size; omega)).trans (Hoo.out k hkB)) (fun g hg => Hown1.out g (by rw [hcf] at hg; exact hg))
      have Hfin := Lib.hid hfin
      clear hfin hy hb5 hrow5
      go_wp2_with fail
      exact bodyPost_end (v := .tuple #[]) (by simp [results, Try.results49]) rfl ⟨rfl, _, rfl, Hfin.out.1, Hfin.out.2⟩
    · have k3 : ¬ (f.s : Int) ≤ (m : Int) := by omega
      have k4 : (m : Int) ≤ (f.s : Int) := by omega
      go_enter Try.func49, Try.ntmps49
      go_wp2_with fail
      refine wp_region_class_tail (Below w1.heap.size w1) 15 (by kernel_rfl) (by kernel_rfl) (Below.refl _ _).drew ?_
      simp only [List.take_succ_cons, List.take_zero, List.drop_succ_cons, List.drop_zero]
      repeat (go_big_quiet_step (first | (intro _; rfl)))
      refine wpQuiet_load_at rfl 64 (.tmp 0) rfl ⟨p, 0, none⟩ rfl (.pointer (some ⟨f.B, 0, none⟩)) H0.out ?_
      simp only [Act.put, List.setIfInBounds_toArray, List.set_cons_succ, List.set_cons_zero]
      repeat (go_big_quiet_step (first | (intro _; rfl)))
      refine wpQuiet_load_at rfl 64 (.tmp 0) rfl ⟨p, 0, none⟩ rfl (.pointer (some ⟨f.B, 0, none⟩)) H0.out ?_
      simp only [Act.put, List.setIfInBounds_toArray, List.set_cons_succ, List.set_cons_zero]
      repeat (go_big_quiet_step (first | (intro _; rfl)))
      refine wpQuiet_load_at rfl 29 (.tmp 5) rfl ⟨f.B, 0, none⟩ rfl (.slice pv f.d.length cv) H1.out ?_
      simp only [Act.put, List.setIfInBounds_toArray, List.set_cons_succ, List.set_cons_zero]
      repeat (go_big_quiet_step (first | (intro _; rfl)))
      refine wpQuiet_load_at rfl 3 (.tmp 1) rfl ⟨q, 0, none⟩ rfl (.int .i64 (m : Nat)) H2.out ?_
      simp only [Act.put, List.setIfInBounds_toArray, List.set_cons_succ, List.set_cons_zero]
      repeat (go_big_quiet_step (first | (intro _; rfl)))
      refine wpQuiet_load_at rfl 64 (.tmp 0) rfl ⟨p, 0, none⟩ rfl (.pointer (some ⟨f.B, 0, none⟩)) H0.out ?_
      simp only [Act.put, List.setIfInBounds_toArray, List.set_cons_succ, List.set_cons_zero]
      repeat (go_big_quiet_step (first | (intro _; rfl)))
      refine wpQuiet_load_at rfl 29 (.tmp 10) rfl ⟨f.B, 0, none⟩ rfl (.slice pv f.d.length cv) H1.out ?_
      simp only [Act.put, List.setIfInBounds_toArray, List.set_cons_succ, List.set_cons_zero]
      repeat (go_big_quiet_step (first | (intro _; rfl)))
      refine wpQuiet_upto_at rfl 29 (.tmp 6) (.tmp 13) rfl (.slice pv f.d.length cv) (.int .i64 (m : Nat)) (.slice p1 (m) c1) rfl rfl Hsl.out ?_
      simp only [Act.put, List.setIfInBounds_toArray, List.set_cons_succ, List.set_cons_zero]
      repeat (go_big_quiet_step (first | (intro _; rfl)))
      refine wpQuiet_nil ?_
      intro wz hz
      have hb2 := (hz.block f.B (lt_of_block Hbf.out)).trans Hbf.out
      have c0 := block_cell hb2 0
      have f0 := block_free hb2 0
      have hb3 := block_set (i := 0) (u := .slice p1 (m) c1) hb2
      have hbp3 : (wz.setCell ⟨f.B, 0, none⟩ (.slice p1 (m) c1)).heap[p]? = some (.cells #[.pointer (some ⟨f.B, 0, none⟩)] 64 (0, 0)) := (set_other _ _ _ _ _ HpB.out).trans ((hz.block p (lt_of_block Hbp.out)).trans Hbp.out)
      have Hz := Lib.hid hz
      have hrw := own_of (w' := wz.setCell ⟨f.B, 0, none⟩ (.slice p1 (m) c1)) Hrow1.out (fun g hg => (set_other _ _ _ _ _ (fun e => by
        obtain ⟨mb, _, _, _, h4, _⟩ := HD.out.f
        exact (h4 f hf).2.2 (by rw [← e]; exact Hown1.out g hg))).trans (hz.block g (own_lt0 Hrow1.out hg)))
      have Hrw := Lib.hid hrw
      have Hsz : Hid ((wz.setCell ⟨f.B, 0, none⟩ (.slice p1 (m) c1)).heap.size = wz.heap.size) := Lib.hid (by simp [World.setCell])
      have Hoo := Lib.hid (show ∀ k, k ≠ f.B → (wz.setCell ⟨f.B, 0, none⟩ (.slice p1 (m) c1)).heap[k]? = wz.heap[k]? from fun k hk => set_other _ _ _ _ _ hk)
      clear hz hb2 hrw
      go_wp2_with fail
      have Hoos : Hid ((wz.setCell ⟨f.B, 0, none⟩ (.slice p1 (m) c1)).os = wz.os ∧ (wz.setCell ⟨f.B, 0, none⟩ (.slice p1 (m) c1)).tape = wz.tape ∧ (wz.setCell ⟨f.B, 0, none⟩ (.slice p1 (m) c1)).output = wz.output) := Lib.hid ⟨rfl, rfl, rfl⟩
      generalize hws : wz.setCell ⟨f.B, 0, none⟩ (.slice p1 (m) c1) = ws at *
      clear hws c0 f0
      have H3 := Lib.hid (fun w9 (h9 : Below ws.heap.size ws w9) => (by have e := (h9.cell (p := ⟨p, 0, none⟩) (lt_of_block hbp3)).trans (block_cell hbp3 0); simp [go_sem, e] : (loadVar 64 ⟨p, 0, none⟩).run Try.prog w9 = .ok (.pointer (some ⟨f.B, 0, none⟩)) w9))
      have H4 := Lib.hid (fun w9 (h9 : Below ws.heap.size ws w9) => (by have e := (h9.cell (p := ⟨f.B, 0, none⟩) (lt_of_block hb3)).trans (block_cell hb3 0); simp [go_sem, e] : (loadVar 29 ⟨f.B, 0, none⟩).run Try.prog w9 = .ok (.slice p1 (m) c1) w9))
      have H5 := Lib.hid (fun w9 (h9 : Below ws.heap.size ws w9) => (by have e := (h9.cell (p := ⟨f.B, 1, none⟩) (lt_of_block hb3)).trans (block_cell hb3 1); simp [go_sem, e] : (loadVar 3 ⟨f.B, 1, none⟩).run Try.prog w9 = .ok (.int .i64 (f.s : Nat)) w9))
      have Hb3 := Lib.hid hb3
      clear hbp3 hb3
      refine wp_region_class_tail (Below ws.heap.size ws) 13 (by kernel_rfl) (by kernel_rfl) (Below.refl _ _).drew ?_
      simp only [List.take_succ_cons, List.take_zero, List.drop_succ_cons, List.drop_zero]
      repeat (go_big_quiet_step (first | (intro _; rfl)))
      refine wpQuiet_load_at rfl 64 (.tmp 0) rfl ⟨p, 0, none⟩ rfl (.pointer (some ⟨f.B, 0, none⟩)) H3.out ?_
      simp only [Act.put, List.setIfInBounds_toArray, List.set_cons_succ, List.set_cons_zero]
      repeat (go_big_quiet_step (first | (intro _; rfl)))
      refine wpQuiet_load_at rfl 64 (.tmp 0) rfl ⟨p, 0, none⟩ rfl (.pointer (some ⟨f.B, 0, none⟩)) H3.out ?_
      simp only [Act.put, List.setIfInBounds_toArray, List.set_cons_succ, List.set_cons_zero]
      repeat (go_big_quiet_step (first | (intro _; rfl)))
      refine wpQuiet_load_at rfl 3 (.tmp 20) rfl ⟨f.B, 1, none⟩ rfl (.int .i64 (f.s : Nat)) H5.out ?_
      simp only [Act.put, List.setIfInBounds_toArray, List.set_cons_succ, List.set_cons_zero]
      repeat (go_big_quiet_step (first | (intro _; rfl)))
      refine wpQuiet_load_at rfl 64 (.tmp 0) rfl ⟨p, 0, none⟩ rfl (.pointer (some ⟨f.B, 0, none⟩)) H3.out ?_
      simp only [Act.put, List.setIfInBounds_toArray, List.set_cons_succ, List.set_cons_zero]
      repeat (go_big_quiet_step (first | (intro _; rfl)))
      refine wpQuiet_load_at rfl 29 (.tmp 24) rfl ⟨f.B, 0, none⟩ rfl (.slice p1 (m) c1) H4.out ?_
      simp only [Act.put, List.setIfInBounds_toArray, List.set_cons_succ, List.set_cons_zero]
      repeat (go_big_quiet_step (first | (intro _; rfl)))
      refine wpQuiet_nil ?_
      intro wy hy
      have hb5 := (hy.block f.B (lt_of_block Hb3.out)).trans Hb3.out
      have d1 := block_cell hb5 1
      have g1 := block_free hb5 1
      have hlen : (f.d.take (m)).length = m := by rw [List.length_take]; omega
      have hmm : min m f.d.length = m := by have := Hm.out; omega
      have hss : min f.s (m) = m := by omega
      have hcf : cutF m f = ⟨f.nm, f.B, .slice p1 (m) c1, f.d.take (m), m⟩ := by unfold cutF; rw [hmm, hss, Hup.out]
      have hrow5 := own_of (w' := wy.setCell ⟨f.B, 1, none⟩ (.int .i64 (m : Nat))) Hrw.out (fun g hg => (set_other _ _ _ _ _ (fun e => by
        obtain ⟨mb, _, _, _, h4, _⟩ := HD.out.f
        exact (h4 f hf).2.2 (by rw [← e]; exact Hown1.out g hg))).trans (hy.block g (own_lt0 Hrw.out hg)))
      have hfin := setF_write (wz := wz) (w' := wy.setCell ⟨f.B, 1, none⟩ (.int .i64 (m : Nat))) (f' := cutF m f) HD.out hf rfl rfl
        ⟨by rw [hcf]; exact block_set (i := 1) (u := .int .i64 (m : Nat)) hb5, by rw [hcf]; show World.ownsRow _ 0 5 1 (.slice p1 (m) c1) (f.d.take (m)).length _; rw [hlen]; exact hrow5, by rw [hcf]; show m ≤ (f.d.take (m)).length; omega⟩ Hz.out (by have h1 := hy.size; have h2 := Hsz.out; simp [World.setCell]; omega)
        ⟨hy.os.trans Hoos.out.1, hy.tape.trans Hoos.out.2.1, hy.output.trans Hoos.out.2.2⟩ (fun k hkl hk => by
          have hkB : k ≠ f.B := fun e => hk (Fl.mem_bl.2 (.inl e))
          rw [set_other _ _ _ _ _ hkB]
          exact (hy.block k (by have h2 := Hsz.out; have h3 := Hz.out.size; omega)).trans (Hoo.out k hkB)) (fun g hg => Hown1.out g (by rw [hcf] at hg; exact hg))
      have Hfin := Lib.hid hfin
      clear hfin hy hb5 hrow5
      go_wp2_with fail
      exact bodyPost_end (v := .tuple #[]) (by simp [results, Try.results49]) rfl ⟨rfl, _, rfl, Hfin.out.1, Hfin.out.2⟩
  · have k1 : (f.d.length : Int) ≤ (n : Int) := by omega
    have k2 : ¬ (n : Int) ≤ (f.d.length : Int) := by omega
    have Hsl2 := Lib.hid (show ∀ w1, (Instr.sliceAt 29 (.slice pv f.d.length cv) none (some (.int .i64 (f.d.length : Nat))) none).run Try.prog w1 = .ok (.slice p1 m c1) w1 from fun w1 => by have h := Hsl.out w1; rw [show ((m : Nat) : Int) = ((f.d.length : Nat) : Int) from congrArg _ e] at h; exact h)
    have He := Lib.hid e
    clear e ne
    by_cases hs : f.s ≤ m
    · have k3 : (f.s : Int) ≤ (m : Int) := by omega
      go_enter Try.func49, Try.ntmps49
      go_wp2_with fail
      refine wp_region_class_tail (Below w1.heap.size w1) 15 (by kernel_rfl) (by kernel_rfl) (Below.refl _ _).drew ?_
      simp only [List.take_succ_cons, List.take_zero, List.drop_succ_cons, List.drop_zero]
      repeat (go_big_quiet_step (first | (intro _; rfl)))
      refine wpQuiet_load_at rfl 64 (.tmp 0) rfl ⟨p, 0, none⟩ rfl (.pointer (some ⟨f.B, 0, none⟩)) H0.out ?_
      simp only [Act.put, List.setIfInBounds_toArray, List.set_cons_succ, List.set_cons_zero]
      repeat (go_big_quiet_step (first | (intro _; rfl)))
      refine wpQuiet_load_at rfl 64 (.tmp 0) rfl ⟨p, 0, none⟩ rfl (.pointer (some ⟨f.B, 0, none⟩)) H0.out ?_
      simp only [Act.put, List.setIfInBounds_toArray, List.set_cons_succ, List.set_cons_zero]
      repeat (go_big_quiet_step (first | (intro _; rfl)))
      refine wpQuiet_load_at rfl 29 (.tmp 5) rfl ⟨f.B, 0, none⟩ rfl (.slice pv f.d.length cv) H1.out ?_
      simp only [Act.put, List.setIfInBounds_toArray, List.set_cons_succ, List.set_cons_zero]
      repeat (go_big_quiet_step (first | (intro _; rfl)))
      refine wpQuiet_load_at rfl 3 (.tmp 1) rfl ⟨q, 0, none⟩ rfl (.int .i64 (n : Nat)) H2.out ?_
      simp only [Act.put, List.setIfInBounds_toArray, List.set_cons_succ, List.set_cons_zero]
      repeat (go_big_quiet_step (first | (intro _; rfl)))
      refine wpQuiet_load_at rfl 64 (.tmp 0) rfl ⟨p, 0, none⟩ rfl (.pointer (some ⟨f.B, 0, none⟩)) H0.out ?_
      simp only [Act.put, List.setIfInBounds_toArray, List.set_cons_succ, List.set_cons_zero]
      repeat (go_big_quiet_step (first | (intro _; rfl)))
      refine wpQuiet_load_at rfl 29 (.tmp 10) rfl ⟨f.B, 0, none⟩ rfl (.slice pv f.d.length cv) H1.out ?_
      simp only [Act.put, List.setIfInBounds_toArray, List.set_cons_succ, List.set_cons_zero]
      repeat (go_big_quiet_step (first | (intro _; rfl)))
      refine wpQuiet_upto_at rfl 29 (.tmp 6) (.tmp 13) rfl (.slice pv f.d.length cv) (.int .i64 (f.d.length : Nat)) (.slice p1 (m) c1) rfl rfl Hsl2.out ?_
      simp only [Act.put, List.setIfInBounds_toArray, List.set_cons_succ, List.set_cons_zero]
      repeat (go_big_quiet_step (first | (intro _; rfl)))
      refine wpQuiet_nil ?_
      intro wz hz
      have hb2 := (hz.block f.B (lt_of_block Hbf.out)).trans Hbf.out
      have c0 := block_cell hb2 0
      have f0 := block_free hb2 0
      have hb3 := block_set (i := 0) (u := .slice p1 (m) c1) hb2
      have hbp3 : (wz.setCell ⟨f.B, 0, none⟩ (.slice p1 (m) c1)).heap[p]? = some (.cells #[.pointer (some ⟨f.B, 0, none⟩)] 64 (0, 0)) := (set_other _ _ _ _ _ HpB.out).trans ((hz.block p (lt_of_block Hbp.out)).trans Hbp.out)
      have Hz := Lib.hid hz
      have hrw := own_of (w' := wz.setCell ⟨f.B, 0, none⟩ (.slice p1 (m) c1)) Hrow1.out (fun g hg => (set_other _ _ _ _ _ (fun e => by
        obtain ⟨mb, _, _, _, h4, _⟩ := HD.out.f
        exact (h4 f hf).2.2 (by rw [← e]; exact Hown1.out g hg))).trans (hz.block g (own_lt0 Hrow1.out hg)))
      have Hrw := Lib.hid hrw
      have Hsz : Hid ((wz.setCell ⟨f.B, 0, none⟩ (.slice p1 (m) c1)).heap.size = wz.heap.size) := Lib.hid (by simp [World.setCell])
      have Hoo := Lib.hid (show ∀ k, k ≠ f.B → (wz.setCell ⟨f.B, 0, none⟩ (.slice p1 (m) c1)).heap[k]? = wz.heap[k]? from fun k hk => set_other _ _ _ _ _ hk)
      clear hz hb2 hrw
      go_wp2_with fail
      have Hoos : Hid ((wz.setCell ⟨f.B, 0, none⟩ (.slice p1 (m) c1)).os = wz.os ∧ (wz.setCell ⟨f.B, 0, none⟩ (.slice p1 (m) c1)).tape = wz.tape ∧ (wz.setCell ⟨f.B, 0, none⟩ (.slice p1 (m) c1)).output = wz.output) := Lib.hid ⟨rfl, rfl, rfl⟩
      generalize hws : wz.setCell ⟨f.B, 0, none⟩ (.slice p1 (m) c1) = ws at *
      clear hws c0 f0
      have H3 := Lib.hid (fun w9 (h9 : Below ws.heap.size ws w9) => (by have e := (h9.cell (p := ⟨p, 0, none⟩) (lt_of_block hbp3)).trans (block_cell hbp3 0); simp [go_sem, e] : (loadVar 64 ⟨p, 0, none⟩).run Try.prog w9 = .ok (.pointer (some ⟨f.B, 0, none⟩)) w9))
      have H4 := Lib.hid (fun w9 (h9 : Below ws.heap.size ws w9) => (by have e := (h9.cell (p := ⟨f.B, 0, none⟩) (lt_of_block hb3)).trans (block_cell hb3 0); simp [go_sem, e] : (loadVar 29 ⟨f.B, 0, none⟩).run Try.prog w9 = .ok (.slice p1 (m) c1) w9))
      have H5 := Lib.hid (fun w9 (h9 : Below ws.heap.size ws w9) => (by have e := (h9.cell (p := ⟨f.B, 1, none⟩) (lt_of_block hb3)).trans (block_cell hb3 1); simp [go_sem, e] : (loadVar 3 ⟨f.B, 1, none⟩).run Try.prog w9 = .ok (.int .i64 (f.s : Nat)) w9))
      have Hb3 := Lib.hid hb3
      clear hbp3 hb3
      refine wp_region_class_tail (Below ws.heap.size ws) 13 (by kernel_rfl) (by kernel_rfl) (Below.refl _ _).drew ?_
      simp only [List.take_succ_cons, List.take_zero, List.drop_succ_cons, List.drop_zero]
      repeat (go_big_quiet_step (first | (intro _; rfl)))
      refine wpQuiet_load_at rfl 64 (.tmp 0) rfl ⟨p, 0, none⟩ rfl (.pointer (some ⟨f.B, 0, none⟩)) H3.out ?_
      simp only [Act.put, List.setIfInBounds_toArray, List.set_cons_succ, List.set_cons_zero]
      repeat (go_big_quiet_step (first | (intro _; rfl)))
      refine wpQuiet_load_at rfl 64 (.tmp 0) rfl ⟨p, 0, none⟩ rfl (.pointer (some ⟨f.B, 0, none⟩)) H3.out ?_
      simp only [Act.put, List.setIfInBounds_toArray, List.set_cons_succ, List.set_cons_zero]
      repeat (go_big_quiet_step (first | (intro _; rfl)))
      refine wpQuiet_load_at rfl 3 (.tmp 20) rfl ⟨f.B, 1, none⟩ rfl (.int .i64 (f.s : Nat)) H5.out ?_
      simp only [Act.put, List.setIfInBounds_toArray, List.set_cons_succ, List.set_cons_zero]
      repeat (go_big_quiet_step (first | (intro _; rfl)))
      refine wpQuiet_load_at rfl 64 (.tmp 0) rfl ⟨p, 0, none⟩ rfl (.pointer (some ⟨f.B, 0, none⟩)) H3.out ?_
      simp only [Act.put, List.setIfInBounds_toArray, List.set_cons_succ, List.set_cons_zero]
      repeat (go_big_quiet_step (first | (intro _; rfl)))
      refine wpQuiet_load_at rfl 29 (.tmp 24) rfl ⟨f.B, 0, none⟩ rfl (.slice p1 (m) c1) H4.out ?_
      simp only [Act.put, List.setIfInBounds_toArray, List.set_cons_succ, List.set_cons_zero]
      repeat (go_big_quiet_step (first | (intro _; rfl)))
      refine wpQuiet_nil ?_
      intro wy hy
      have hb5 := (hy.block f.B (lt_of_block Hb3.out)).trans Hb3.out
      have d1 := block_cell hb5 1
      have g1 := block_free hb5 1
      have hlen : (f.d.take (m)).length = m := by rw [List.length_take]; omega
      have hmm : min n f.d.length = m := by have := Hm.out; omega
      have hss : min f.s (m) = f.s := by omega
      have hcf : cutF n f = ⟨f.nm, f.B, .slice p1 (m) c1, f.d.take (m), f.s⟩ := by unfold cutF; rw [hmm, hss, Hup.out]
      have hrow5 := own_of (w' := wy.setCell ⟨f.B, 1, none⟩ (.int .i64 (f.s : Nat))) Hrw.out (fun g hg => (set_other _ _ _ _ _ (fun e => by
        obtain ⟨mb, _, _, _, h4, _⟩ := HD.out.f
        exact (h4 f hf).2.2 (by rw [← e]; exact Hown1.out g hg))).trans (hy.block g (own_lt0 Hrw.out hg)))
      have hfin := setF_write (wz := wz) (w' := wy.setCell ⟨f.B, 1, none⟩ (.int .i64 (f.s : Nat))) (f' := cutF n f) HD.out hf rfl rfl
        ⟨by rw [hcf]; exact block_set (i := 1) (u := .int .i64 (f.s : Nat)) hb5, by rw [hcf]; show World.ownsRow _ 0 5 1 (.slice p1 (m) c1) (f.d.take (m)).length _; rw [hlen]; exact hrow5, by rw [hcf]; show f.s ≤ (f.d.take (m)).length; omega⟩ Hz.out (by have h1 := hy.size; have h2 := Hsz.out; simp [World.setCell]; omega)
        ⟨hy.os.trans Hoos.out.1, hy.tape.trans Hoos.out.2.1, hy.output.trans Hoos.out.2.2⟩ (fun k hkl hk => by
          have hkB : k ≠ f.B := fun e => hk (Fl.mem_bl.2 (.inl e))
          rw [set_other _ _ _ _ _ hkB]
          exact (hy.block k (by have h2 := Hsz.out; have h3 := Hz.out.size; omega)).trans (Hoo.out k hkB)) (fun g hg => Hown1.out g (by rw [hcf] at hg; exact hg))
      have Hfin := Lib.hid hfin
      clear hfin hy hb5 hrow5
      go_wp2_with fail
      exact bodyPost_end (v := .tuple #[]) (by simp [results, Try.results49]) rfl ⟨rfl, _, rfl, Hfin.out.1, Hfin.out.2⟩
    · have k3 : ¬ (f.s : Int) ≤ (m : Int) := by omega
      have k4 : (m : Int) ≤ (f.s : Int) := by omega
      exact absurd hle (by have := He.out; omega)
end Go.Proofs.Ytfmcemedaehcoaa
