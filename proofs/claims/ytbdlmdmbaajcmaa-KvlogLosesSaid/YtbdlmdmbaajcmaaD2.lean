/- Walks: what a file loses when the power goes; Walks: over all files of a device: how much room is left; the power's going; Walks: the power goes; Walks: an act, whatever it does; The theory of a device: a file is put, or taken away; its map. -/
import Derived.Test.YtbdlmdmbaajcmaaD1
import Derived.Test.YtbdlmdmbaajcmaaKr
import Derived.Deep.LoopGhost
namespace Go.Proofs.Ytbdlmdmbaajcmaa
set_option linter.unusedVariables false
set_option linter.unusedSimpArgs false
open Go.ChangeShapes Go.WideShapes Go.ChangeAt Go.RowKit

theorem wpQuiet_load_at {P : Program} {C : World → Prop} {ops : Array Oper} {rest : List Oper} {o : Oper} {a : Act} {Q : Act → Prop} (hw : Region.wanted o (yielded ops a.tmps) = true) (ty : TypeId) (x : Operand) (ho : o.op = .load ty x)
    (p : Addr) (hx : a.eval x = .pointer (some p)) (v : Value) (hr : ∀ w, C w → (loadVar ty p).run P w = .ok v w)
    (h : wpQuiet P ops C Q rest (a.put o.dst v)) : wpQuiet P ops C Q (o :: rest) a := by
  refine Go.BigFrame.wpQuiet_want hw fun K hK => ⟨v, fun w hw => ?_, hK _ h⟩
  unfold Oper.quietAt execOp
  simp only [ho, hx, Instr.loadAt, Instr.sureAddr, Sem.run_bind, Sem.run_pure, Result.andThen_ok, hr w hw]
  exact ⟨rfl, rfl⟩
theorem wpQuiet_upto_at {P : Program} {C : World → Prop} {ops : Array Oper} {rest : List Oper} {o : Oper} {a : Act} {Q : Act → Prop} (hw : Region.wanted o (yielded ops a.tmps) = true) (ty : TypeId) (x hi : Operand) (ho : o.op = .slice ty x none (some hi) none)
    (vx vh v : Value) (hx : a.eval x = vx) (hh : a.eval hi = vh) (hr : ∀ w, (Instr.sliceAt ty vx none (some vh) none).run P w = .ok v w)
    (h : wpQuiet P ops C Q rest (a.put o.dst v)) : wpQuiet P ops C Q (o :: rest) a := by
  refine Go.BigFrame.wpQuiet_want hw fun K hK => ⟨v, fun w hw => ?_, hK _ h⟩
  unfold Oper.quietAt execOp
  simp only [ho, Option.map, hx, hh, Sem.run_bind, Sem.run_pure, Result.andThen_ok, hr w]
  exact ⟨rfl, rfl⟩
theorem upto_run (p : Option Addr) (len cap n : Nat) (h : n ≤ cap) (w1 : World) : (Instr.sliceAt 40 (.slice p len cap) none (some (.int .i64 n)) none).run Try.prog w1 = .ok (.slice (if cap = 0 then p else p.map (·.add 0)) n cap) w1 := by
  have h2 : (n : Int) ≤ cap := by omega
  have he : Try.prog.elem 40 = 5 := by kernel_rfl
  have hz : (sizeOf 5).run Try.prog w1 = .ok 1 w1 := by kernel_rfl
  rw [run_sliceAt_slice w1 40 _ _ _ _ (by rw [he]; exact Try.underlying40), run_slice_h w1 40 _ _ _ (by rw [he]; exact Try.underlying40) .i64 _ (by omega) h2, he, hz]
  simp [Result.andThen, sliced]
theorem LF_bV (l : List UInt8) : LF bV l = l.map (fun b => Value.int .u8 b.toNat) := by
  unfold LF bV
  induction l with
  | nil => rfl
  | cons a l ih => simp [List.flatMap_cons, ih]
theorem LF_take (l : List UInt8) (n : Nat) : LF bV (l.take n) = (LF bV l).take n := by rw [LF_bV, LF_bV, List.map_take]

def uptoV : Value → Nat → Value
  | .slice p _ c, n => .slice p n c
  | v, _ => v
theorem add_zero' (x : Addr) : x.add 0 = x := by unfold Addr.add; split <;> simp_all
/-- A row's first bytes. -/
theorem own_upto {w : World} {v : Value} {l : List UInt8} {n : Nat} (ho : w.ownsRow 0 5 1 v l.length (LF bV l)) (hn : n ≤ l.length) :
    ∃ p c, (∀ w1, (Instr.sliceAt 40 v none (some (.int .i64 n)) none).run Try.prog w1 = .ok (.slice p n c) w1) ∧ w.ownsRow 0 5 1 (.slice p n c) n (LF bV (l.take n)) ∧ (∀ g, (Value.slice p n c).ownBlock = some g → v.ownBlock = some g) ∧ ∀ k, uptoV v k = .slice p k c := by
  rcases ho.2 with ⟨rfl, h0⟩ | ⟨g, cap, cur, rfl, hg, hh, hc, hm, hs, ht⟩
  · obtain rfl : n = 0 := by omega
    refine ⟨none, 0, fun w1 => ?_, ⟨by simp [LF], .inl ⟨rfl, rfl⟩⟩, (fun g h => by cases h), fun _ => rfl⟩
    exact upto_run none 0 0 0 (Nat.le_refl _) w1
  · have hp : (if cap = 0 then some ⟨g, 0, none⟩ else (some (⟨g, 0, none⟩ : Addr)).map (·.add 0)) = some ⟨g, 0, none⟩ := by
      split
      · rfl
      · simp [add_zero']
    refine ⟨some ⟨g, 0, none⟩, cap, fun w1 => by rw [upto_run _ _ _ _ (by omega), hp], ⟨?_, .inr ⟨g, cap, cur, rfl, hg, hh, by omega, hm, hs, ?_⟩⟩, (fun g' h => h), fun _ => rfl⟩
    · rw [LF_bV, List.length_map, List.length_take]; omega
    · rw [LF_take, ← ht, List.take_take]; congr 1; omega
/-- How many bytes that aren't safe are kept. -/
def keptN (keep : Int) (d : List UInt8) (s : Nat) : Nat := min (max keep 0).toNat (d.length - s)
def loseD (keep : Int) (torn : Bool) (d : List UInt8) (s : Nat) : List UInt8 :=
  if 0 < keptN keep d s ∧ torn = true then (d.take (s + keptN keep d s)).set (s + keptN keep d s - 1) (d.getD (s + keptN keep d s - 1) 0 ^^^ 255) else d.take (s + keptN keep d s)
theorem keptN_le (keep : Int) (d : List UInt8) (s : Nat) : keptN keep d s ≤ d.length - s := Nat.min_le_right _ _
theorem loseD_len {keep : Int} {torn : Bool} {d : List UInt8} {s : Nat} (h : s ≤ d.length) : (loseD keep torn d s).length = s + keptN keep d s := by
  have := keptN_le keep d s
  unfold loseD
  split
  · rw [List.length_set, List.length_take]; omega
  · rw [List.length_take]; omega
theorem xor_fin : ∀ n : Fin 256, bits BinOp.xor IntKind.u8 ((n.val : Nat) : Int) 255 = (((UInt8.ofNat n.val) ^^^ 255).toNat : Int) := by decide +kernel
theorem xor_byte (x : UInt8) : bits BinOp.xor IntKind.u8 ((x.toNat : Nat) : Int) 255 = ((x ^^^ 255).toNat : Int) := by
  have h := xor_fin ⟨x.toNat, x.toNat_lt⟩
  rw [h, UInt8.ofNat_toNat]
/-- What lose leaves of a file. -/
structure Lost (keep : Int) (torn : Bool) (f : Fl) (w w' : World) (f' : Fl) : Prop where
  nm : f'.nm = f.nm
  B : f'.B = f.B
  d : f'.d = loseD keep torn f.d f.s
  s : f'.s = f'.d.length
  v : f'.v = uptoV f.v f'.s
  ok : Fok w' f'
  own : ∀ g, f'.v.ownBlock = some g → f.v.ownBlock = some g
  size : w.heap.size ≤ w'.heap.size
  block : ∀ k, k < w.heap.size → k ∉ f.bl → w'.heap[k]? = w.heap[k]?
  os : w'.os = w.os
  tape : w'.tape = w.tape
  output : w'.output = w.output
def loseF (keep : Int) (torn : Bool) (f : Fl) : Fl := ⟨f.nm, f.B, uptoV f.v (loseD keep torn f.d f.s).length, loseD keep torn f.d f.s, (loseD keep torn f.d f.s).length⟩
theorem Lost.eq {keep : Int} {torn : Bool} {f f' : Fl} {w w' : World} (h : Lost keep torn f w w' f') : f' = loseF keep torn f := by
  obtain ⟨nm, B, v, d, s⟩ := f'
  have h1 : nm = f.nm := h.nm
  have h2 : B = f.B := h.B
  have h3 : d = loseD keep torn f.d f.s := h.d
  have h4 : s = d.length := h.s
  have h5 : v = uptoV f.v s := h.v
  subst h1 h2 h3 h4 h5
  rfl

theorem own_of {w w' : World} {v : Value} {n : Nat} {xs : List Value} (h : w.ownsRow 0 5 1 v n xs) (e : ∀ g, v.ownBlock = some g → w'.heap[g]? = w.heap[g]?) : w'.ownsRow 0 5 1 v n xs := by
  refine ⟨h.1, ?_⟩
  rcases h.2 with h1 | ⟨g, cap, cur, hv, hb, hh, rest⟩
  · exact .inl h1
  · exact .inr ⟨g, cap, cur, hv, hb, (e g (by rw [hv]; rfl)).trans hh, rest⟩
theorem own_cell {w : World} {g c n : Nat} {l : List UInt8} (h : w.ownsRow 0 5 1 (.slice (some ⟨g, 0, none⟩) n c) l.length (LF bV l)) (hn : n = l.length) {j : Nat} (hj : j < l.length) : w.cell? ⟨g, j, none⟩ = some (.int .u8 (l.getD j 0).toNat) ∧ w.frozen? ⟨g, j, none⟩ = false := by
  rcases h.2 with ⟨h1, _⟩ | ⟨g', cap, cur, hv, hb, hh, hc, hm, hs, ht⟩
  · cases h1
  · injection hv with e1 e2 e3
    injection e1 with e1
    injection e1 with e1 _
    subst e1
    rw [block_cell hh, block_free hh]
    refine ⟨?_, rfl⟩
    have h2 : (cur.toList.take (l.length * 1))[j]? = some (.int .u8 (l.getD j 0).toNat) := by
      rw [ht, LF_bV, List.getElem?_map, List.getElem?_eq_getElem hj]
      simp [List.getD_eq_getElem?_getD, List.getElem?_eq_getElem hj]
    rw [List.getElem?_take_of_lt (by omega), Array.getElem?_toList] at h2
    exact h2
theorem own_set {w : World} {g c n : Nat} {l : List UInt8} (h : w.ownsRow 0 5 1 (.slice (some ⟨g, 0, none⟩) n c) l.length (LF bV l)) (j : Nat) (y : UInt8) :
    (w.setCell ⟨g, j, none⟩ (.int .u8 y.toNat)).ownsRow 0 5 1 (.slice (some ⟨g, 0, none⟩) n c) (l.set j y).length (LF bV (l.set j y)) := by
  rcases h.2 with ⟨h1, _⟩ | ⟨g', cap, cur, hv, hb, hh, hc, hm, hs, ht⟩
  · cases h1
  · have hv2 := hv
    injection hv with e1 e2 e3
    injection e1 with e1
    injection e1 with e1 _
    subst e1
    refine ⟨by rw [LF_bV, List.length_map, Nat.mul_one], .inr ⟨g, cap, cur.setIfInBounds j (.int .u8 y.toNat), by rw [List.length_set]; exact hv2, hb, block_set hh, by rw [List.length_set]; exact hc, hm, by rw [Array.size_setIfInBounds]; exact hs, ?_⟩⟩
    rw [List.length_set, LF_bV, List.map_set, ← LF_bV, ← ht, Array.toList_setIfInBounds, List.take_set]
set_option maxRecDepth 100000 in
set_option maxHeartbeats 4000000 in
theorem lose_any (f : Fl) (w : World) (hf : Fok w f) (hne : f.v.ownBlock ≠ some f.B) (keep : Int) (torn : Bool) (hb : f.d.length ≤ 16777216) :
    Calls Try.prog 54 #[.pointer (some ⟨f.B, 0, none⟩), .int .i64 keep, .bool torn] w fun e w' => e = .returned (.tuple #[]) ∧ ∃ f', Lost keep torn f w w' f' := by
  obtain ⟨pv, cv, hv⟩ := row_shape hf
  have hle := hf.le
  have HF := Lib.hid hf
  have hbox := hf.box
  rw [hv] at hbox
  have Hbox := Lib.hid hbox
  have hrow := hf.row
  rw [hv] at hrow
  have Hrow := Lib.hid hrow
  have Hv := Lib.hid hv
  have HV0 := Lib.hid (fun w1 (h1 : Below w.heap.size w w1) => (by have e := (h1.cell (p := ⟨f.B, 0, none⟩) (lt_of_block Hbox.out)).trans (block_cell Hbox.out 0); simp [go_sem, e] : (loadVar 40 ⟨f.B, 0, none⟩).run Try.prog w1 = .ok (.slice pv f.d.length cv) w1))
  have HS0 := Lib.hid (fun w1 (h1 : Below w.heap.size w w1) => (by have e := (h1.cell (p := ⟨f.B, 1, none⟩) (lt_of_block Hbox.out)).trans (block_cell Hbox.out 1); simp [go_sem, e] : (loadVar 3 ⟨f.B, 1, none⟩).run Try.prog w1 = .ok (.int .i64 (f.s : Nat)) w1))
  obtain ⟨kn, hkn⟩ : ∃ kn, kn = keptN keep f.d f.s := ⟨_, rfl⟩
  have hk0 := keptN_le keep f.d f.s
  rw [← hkn] at hk0
  have Hkn := Lib.hid hkn
  have hkd : kn = min (max keep 0).toNat (f.d.length - f.s) := hkn
  obtain ⟨p1, c1, hsl, hrow1, hown1, hup⟩ := own_upto (n := f.s + kn) hrow (by omega)
  have Hsl := Lib.hid hsl
  have Hrow1 := Lib.hid hrow1
  have Hup := Lib.hid (show ∀ k, uptoV f.v k = .slice p1 k c1 from fun k => by rw [Hv.out]; exact hup k)
  clear hup
  have Hown1' : ∀ g, (Value.slice p1 (f.s + kn) c1).ownBlock = some g → f.v.ownBlock = some g := fun g hg => by rw [Hv.out]; exact hown1 g hg
  clear hf hv hbox hrow hsl hrow1 hown1 hkn
  have hw1 : IntKind.i64.wrap ((f.d.length : Int) - (f.s : Int)) = (f.d.length : Int) - (f.s : Int) := by simp [IntKind.wrap, IntKind.bits, IntKind.signed]; omega
  have hw2 : IntKind.i64.wrap ((f.s : Int) + (kn : Int)) = ((f.s + kn : Nat) : Int) := by simp [IntKind.wrap, IntKind.bits, IntKind.signed]; omega
  rcases (by omega : (keep < 0 ∧ kn = 0) ∨ (0 ≤ keep ∧ keep ≤ (f.d.length : Int) - f.s ∧ keep = kn) ∨ (0 ≤ keep ∧ (f.d.length : Int) - f.s < keep ∧ (f.d.length : Int) - f.s = kn)) with ⟨k1, k2⟩ | ⟨k1, k2, k3⟩ | ⟨k1, k2, k3⟩
  · have k4 : ¬ 0 ≤ keep := by omega
    clear hkd
    subst k2
    rw [Nat.add_zero] at Hsl Hrow1 Hown1' hw2
    have hw3 : IntKind.i64.wrap (f.s : Int) = (f.s : Int) := hw2
    go_enter Try.func54, Try.ntmps54
    go_wp2_with fail
    refine wp_region_class (Below w.heap.size w) (by kernel_rfl) (by kernel_rfl) (Below.refl _ _).drew ?_
    repeat (go_big_quiet_step (first | (intro _; rfl)))
    refine wpQuiet_load_at rfl 40 (.tmp 11) rfl ⟨f.B, 0, none⟩ rfl (.slice pv f.d.length cv) HV0.out ?_
    simp only [Act.put, List.setIfInBounds_toArray, List.set_cons_succ, List.set_cons_zero]
    repeat (go_big_quiet_step (first | (intro _; rfl)))
    refine wpQuiet_load_at rfl 3 (.tmp 16) rfl ⟨f.B, 1, none⟩ rfl (.int .i64 (f.s : Nat)) HS0.out ?_
    simp only [Act.put, List.setIfInBounds_toArray, List.set_cons_succ, List.set_cons_zero]
    repeat (go_big_quiet_step (first | (intro _; rfl)))
    refine wpQuiet_nil ?_
    intro wq hBq
    have HB1 := Lib.hid hBq
    have hbx := (hBq.block f.B (lt_of_block Hbox.out)).trans Hbox.out
    have Hbx := Lib.hid hbx
    have HV1 := Lib.hid (fun w1 (h1 : Below wq.heap.size wq w1) => (by have e := (h1.cell (p := ⟨f.B, 0, none⟩) (lt_of_block Hbx.out)).trans (block_cell Hbx.out 0); simp [go_sem, e] : (loadVar 40 ⟨f.B, 0, none⟩).run Try.prog w1 = .ok (.slice pv f.d.length cv) w1))
    have HS1 := Lib.hid (fun w1 (h1 : Below wq.heap.size wq w1) => (by have e := (h1.cell (p := ⟨f.B, 1, none⟩) (lt_of_block Hbx.out)).trans (block_cell Hbx.out 1); simp [go_sem, e] : (loadVar 3 ⟨f.B, 1, none⟩).run Try.prog w1 = .ok (.int .i64 (f.s : Nat)) w1))
    clear hBq hbx
    go_wp2_with fail
    refine wp_region_class_tail (Below wq.heap.size wq) 14 (by kernel_rfl) (by kernel_rfl) (Below.refl _ _).drew ?_
    simp only [List.take_succ_cons, List.take_zero, List.drop_succ_cons, List.drop_zero]
    repeat (go_big_quiet_step (first | (intro _; rfl)))
    refine wpQuiet_load_at rfl 40 (.tmp 23) rfl ⟨f.B, 0, none⟩ rfl (.slice pv f.d.length cv) HV1.out ?_
    simp only [Act.put, List.setIfInBounds_toArray, List.set_cons_succ, List.set_cons_zero]
    repeat (go_big_quiet_step (first | (intro _; rfl)))
    refine wpQuiet_load_at rfl 3 (.tmp 27) rfl ⟨f.B, 1, none⟩ rfl (.int .i64 (f.s : Nat)) HS1.out ?_
    simp only [Act.put, List.setIfInBounds_toArray, List.set_cons_succ, List.set_cons_zero]
    repeat (go_big_quiet_step (first | (intro _; rfl)))
    refine wpQuiet_upto_at rfl 40 (.tmp 24) (.tmp 30) rfl (.slice pv f.d.length cv) (.int .i64 (f.s : Nat)) (.slice p1 (f.s) c1) rfl rfl Hsl.out ?_
    simp only [Act.put, List.setIfInBounds_toArray, List.set_cons_succ, List.set_cons_zero]
    repeat (go_big_quiet_step (first | (intro _; rfl)))
    refine wpQuiet_nil ?_
    intro wz hBz
    have hB2 := HB1.out.trans (hBz.mono HB1.out.size)
    have hbx2 := (hBz.block f.B (lt_of_block Hbx.out)).trans Hbx.out
    have c0 := block_cell hbx2 0
    have f0 := block_free hbx2 0
    have hS := Lib.hid (show (wz.setCell ⟨f.B, 0, none⟩ (.slice p1 (f.s) c1)).heap[f.B]? = some (.cells #[.slice p1 (f.s) c1, .int .i64 (f.s : Nat)] 89 (0, 0)) from block_set (i := 0) (u := .slice p1 (f.s) c1) hbx2)
    have hR := Lib.hid (own_of (w' := wz.setCell ⟨f.B, 0, none⟩ (.slice p1 (f.s) c1)) Hrow1.out (fun g hg => (set_other _ _ _ _ _ (fun e => hne (by rw [← e]; exact Hown1' g hg))).trans (hB2.block g ((own_lt0 Hrow1.out hg)))))
    have hO := Lib.hid (show ∀ k, k < w.heap.size → k ≠ f.B → (wz.setCell ⟨f.B, 0, none⟩ (.slice p1 (f.s) c1)).heap[k]? = w.heap[k]? from fun k hk hne => (set_other _ _ _ _ _ hne).trans (hB2.block k hk))
    have hZ := Lib.hid (show (wz.setCell ⟨f.B, 0, none⟩ (.slice p1 (f.s) c1)).os = w.os ∧ (wz.setCell ⟨f.B, 0, none⟩ (.slice p1 (f.s) c1)).tape = w.tape ∧ (wz.setCell ⟨f.B, 0, none⟩ (.slice p1 (f.s) c1)).output = w.output ∧ w.heap.size ≤ (wz.setCell ⟨f.B, 0, none⟩ (.slice p1 (f.s) c1)).heap.size from ⟨hB2.os, hB2.tape, hB2.output, by simp [World.setCell]; exact hB2.size⟩)
    have d0 := block_cell hS.out 0
    have d1 := block_cell hS.out 1
    have g1 := block_free hS.out 1
    clear hB2 hbx2 hBz
    have Hlen := Lib.hid (show (f.d.take (f.s)).length = f.s by rw [List.length_take]; omega)
    have hO := Lib.hid (show ∀ k, k < w.heap.size → k ∉ f.bl → (wz.setCell ⟨f.B, 0, none⟩ (.slice p1 (f.s) c1)).heap[k]? = w.heap[k]? from fun k hk hn => hO.out k hk (fun e => hn (Fl.mem_bl.2 (.inl e))))
    go_wp2_with fail
    exact bodyPost_end (v := .tuple #[]) (by simp [results, Try.results54]) rfl ⟨rfl, ⟨f.nm, f.B, .slice p1 (f.s) c1, f.d.take (f.s), f.s⟩, rfl, rfl, by show f.d.take f.s = _; unfold loseD; rw [← Hkn.out, if_neg (by omega), Nat.add_zero], Hlen.out.symm, (Hup.out _).symm, ⟨block_set (i := 1) (u := .int .i64 (f.s : Nat)) hS.out, by have h := own_of (w' := (wz.setCell ⟨f.B, 0, none⟩ (.slice p1 (f.s) c1)).setCell ⟨f.B, 1, none⟩ (.int .i64 (f.s : Nat))) hR.out (fun g hg => set_other _ _ _ _ _ (fun e => hne (by rw [← e]; exact Hown1' g hg))); simpa [show (f.d.take (f.s)).length = f.s from Hlen.out] using h, by show f.s ≤ (f.d.take (f.s)).length; rw [Hlen.out]; exact Nat.le_refl _⟩, fun g hg => Hown1' g hg, by have h := hZ.out.2.2.2; simpa [World.setCell] using h, fun k hk hn => (set_other _ _ _ _ _ (fun e => hn (Fl.mem_bl.2 (.inl e)))).trans (hO.out k hk hn), hZ.out.1, hZ.out.2.1, hZ.out.2.2.1⟩
  · subst k3
    clear hkd
    have k4 : ¬ (kn : Int) < 0 := by omega
    go_enter Try.func54, Try.ntmps54
    go_wp2_with fail
    refine wp_region_class (Below w.heap.size w) (by kernel_rfl) (by kernel_rfl) (Below.refl _ _).drew ?_
    repeat (go_big_quiet_step (first | (intro _; rfl)))
    refine wpQuiet_load_at rfl 40 (.tmp 11) rfl ⟨f.B, 0, none⟩ rfl (.slice pv f.d.length cv) HV0.out ?_
    simp only [Act.put, List.setIfInBounds_toArray, List.set_cons_succ, List.set_cons_zero]
    repeat (go_big_quiet_step (first | (intro _; rfl)))
    refine wpQuiet_load_at rfl 3 (.tmp 16) rfl ⟨f.B, 1, none⟩ rfl (.int .i64 (f.s : Nat)) HS0.out ?_
    simp only [Act.put, List.setIfInBounds_toArray, List.set_cons_succ, List.set_cons_zero]
    repeat (go_big_quiet_step (first | (intro _; rfl)))
    refine wpQuiet_nil ?_
    intro wq hBq
    have HB1 := Lib.hid hBq
    have hbx := (hBq.block f.B (lt_of_block Hbox.out)).trans Hbox.out
    have Hbx := Lib.hid hbx
    have HV1 := Lib.hid (fun w1 (h1 : Below wq.heap.size wq w1) => (by have e := (h1.cell (p := ⟨f.B, 0, none⟩) (lt_of_block Hbx.out)).trans (block_cell Hbx.out 0); simp [go_sem, e] : (loadVar 40 ⟨f.B, 0, none⟩).run Try.prog w1 = .ok (.slice pv f.d.length cv) w1))
    have HS1 := Lib.hid (fun w1 (h1 : Below wq.heap.size wq w1) => (by have e := (h1.cell (p := ⟨f.B, 1, none⟩) (lt_of_block Hbx.out)).trans (block_cell Hbx.out 1); simp [go_sem, e] : (loadVar 3 ⟨f.B, 1, none⟩).run Try.prog w1 = .ok (.int .i64 (f.s : Nat)) w1))
    clear hBq hbx
    go_wp2_with fail
    refine wp_region_class_tail (Below wq.heap.size wq) 14 (by kernel_rfl) (by kernel_rfl) (Below.refl _ _).drew ?_
    simp only [List.take_succ_cons, List.take_zero, List.drop_succ_cons, List.drop_zero]
    repeat (go_big_quiet_step (first | (intro _; rfl)))
    refine wpQuiet_load_at rfl 40 (.tmp 23) rfl ⟨f.B, 0, none⟩ rfl (.slice pv f.d.length cv) HV1.out ?_
    simp only [Act.put, List.setIfInBounds_toArray, List.set_cons_succ, List.set_cons_zero]
    repeat (go_big_quiet_step (first | (intro _; rfl)))
    refine wpQuiet_load_at rfl 3 (.tmp 27) rfl ⟨f.B, 1, none⟩ rfl (.int .i64 (f.s : Nat)) HS1.out ?_
    simp only [Act.put, List.setIfInBounds_toArray, List.set_cons_succ, List.set_cons_zero]
    repeat (go_big_quiet_step (first | (intro _; rfl)))
    refine wpQuiet_upto_at rfl 40 (.tmp 24) (.tmp 30) rfl (.slice pv f.d.length cv) (.int .i64 (f.s + kn : Nat)) (.slice p1 (f.s + kn) c1) rfl rfl Hsl.out ?_
    simp only [Act.put, List.setIfInBounds_toArray, List.set_cons_succ, List.set_cons_zero]
    repeat (go_big_quiet_step (first | (intro _; rfl)))
    refine wpQuiet_nil ?_
    intro wz hBz
    have hB2 := HB1.out.trans (hBz.mono HB1.out.size)
    have hbx2 := (hBz.block f.B (lt_of_block Hbx.out)).trans Hbx.out
    have c0 := block_cell hbx2 0
    have f0 := block_free hbx2 0
    have hS := Lib.hid (show (wz.setCell ⟨f.B, 0, none⟩ (.slice p1 (f.s + kn) c1)).heap[f.B]? = some (.cells #[.slice p1 (f.s + kn) c1, .int .i64 (f.s : Nat)] 89 (0, 0)) from block_set (i := 0) (u := .slice p1 (f.s + kn) c1) hbx2)
    have hR := Lib.hid (own_of (w' := wz.setCell ⟨f.B, 0, none⟩ (.slice p1 (f.s + kn) c1)) Hrow1.out (fun g hg => (set_other _ _ _ _ _ (fun e => hne (by rw [← e]; exact Hown1' g hg))).trans (hB2.block g ((own_lt0 Hrow1.out hg)))))
    have hO := Lib.hid (show ∀ k, k < w.heap.size → k ≠ f.B → (wz.setCell ⟨f.B, 0, none⟩ (.slice p1 (f.s + kn) c1)).heap[k]? = w.heap[k]? from fun k hk hne => (set_other _ _ _ _ _ hne).trans (hB2.block k hk))
    have hZ := Lib.hid (show (wz.setCell ⟨f.B, 0, none⟩ (.slice p1 (f.s + kn) c1)).os = w.os ∧ (wz.setCell ⟨f.B, 0, none⟩ (.slice p1 (f.s + kn) c1)).tape = w.tape ∧ (wz.setCell ⟨f.B, 0, none⟩ (.slice p1 (f.s + kn) c1)).output = w.output ∧ w.heap.size ≤ (wz.setCell ⟨f.B, 0, none⟩ (.slice p1 (f.s + kn) c1)).heap.size from ⟨hB2.os, hB2.tape, hB2.output, by simp [World.setCell]; exact hB2.size⟩)
    have d0 := block_cell hS.out 0
    have d1 := block_cell hS.out 1
    have g1 := block_free hS.out 1
    clear hB2 hbx2 hBz
    have Hlen := Lib.hid (show (f.d.take (f.s + kn)).length = f.s + kn by rw [List.length_take]; omega)
    by_cases h0 : 0 < kn
    · have h0I : (0 : Int) < (kn : Int) := by omega
      cases torn with
      | false =>
        have hO := Lib.hid (show ∀ k, k < w.heap.size → k ∉ f.bl → (wz.setCell ⟨f.B, 0, none⟩ (.slice p1 (f.s + kn) c1)).heap[k]? = w.heap[k]? from fun k hk hn => hO.out k hk (fun e => hn (Fl.mem_bl.2 (.inl e))))
        go_wp2_with fail
        exact bodyPost_end (v := .tuple #[]) (by simp [results, Try.results54]) rfl ⟨rfl, ⟨f.nm, f.B, .slice p1 (f.s + kn) c1, f.d.take (f.s + kn), f.s + kn⟩, rfl, rfl, by show f.d.take (f.s + kn) = _; unfold loseD; rw [← Hkn.out, if_neg (by simp)], Hlen.out.symm, (Hup.out _).symm, ⟨block_set (i := 1) (u := .int .i64 (f.s + kn : Nat)) hS.out, by have h := own_of (w' := (wz.setCell ⟨f.B, 0, none⟩ (.slice p1 (f.s + kn) c1)).setCell ⟨f.B, 1, none⟩ (.int .i64 (f.s + kn : Nat))) hR.out (fun g hg => set_other _ _ _ _ _ (fun e => hne (by rw [← e]; exact Hown1' g hg))); simpa [show (f.d.take (f.s + kn)).length = f.s + kn from Hlen.out] using h, by show f.s + kn ≤ (f.d.take (f.s + kn)).length; rw [Hlen.out]; exact Nat.le_refl _⟩, fun g hg => Hown1' g hg, by have h := hZ.out.2.2.2; simpa [World.setCell] using h, fun k hk hn => (set_other _ _ _ _ _ (fun e => hn (Fl.mem_bl.2 (.inl e)))).trans (hO.out k hk hn), hZ.out.1, hZ.out.2.1, hZ.out.2.2.1⟩
      | true =>
        obtain ⟨g, rfl⟩ : ∃ g, p1 = some ⟨g, 0, none⟩ := by
          rcases Hrow1.out.2 with ⟨_, h1⟩ | ⟨g, cap, cur, hv, _⟩
          · omega
          · injection hv with e1; exact ⟨g, e1⟩
        have hfd : ∀ j, j < f.s + kn → (f.d.take (f.s + kn)).getD j 0 = f.d.getD j 0 := fun j hj => by
          rw [List.getD_eq_getElem?_getD, List.getD_eq_getElem?_getD, List.getElem?_take_of_lt hj]
        have hcell := own_cell (l := f.d.take (f.s + kn)) (by rw [Hlen.out]; exact hR.out) Hlen.out.symm (j := f.s + kn - 1) (by rw [Hlen.out]; omega)
        have hnb : f.s + kn ≤ 16777216 := by omega
        obtain ⟨m, hm⟩ : ∃ m, f.s + kn = m + 1 := ⟨f.s + kn - 1, by omega⟩
        rw [show f.s + kn - 1 = m by omega, hfd m (by omega)] at hcell
        have hm1 : ((f.s + kn : Nat) : Int) - 1 = (m : Int) := by omega
        have hm2 : (f.s : Int) + (kn : Int) - 1 = (m : Int) := by omega
        have hwm : IntKind.i64.wrap (m : Int) = (m : Int) := by simp [IntKind.wrap, IntKind.bits, IntKind.signed]; omega
        have hml : (m : Int) < ((f.s + kn : Nat) : Int) := by omega
        have hml2 : (m : Int) < (f.s : Int) + (kn : Int) := by omega
        have hm0 : (0 : Int) ≤ (m : Int) := by omega
        obtain ⟨x, hx⟩ : ∃ x, x = f.d.getD m 0 := ⟨_, rfl⟩
        rw [← hx] at hcell
        have Hx := Lib.hid hx
        have hxb := xor_byte x
        obtain ⟨y, hy⟩ : ∃ y, y = x ^^^ 255 := ⟨_, rfl⟩
        rw [← hy] at hxb
        have Hy := Lib.hid hy
        clear hx hy
        have Hcell := Lib.hid hcell
        have Hm := Lib.hid hm
        have hgl := own_lt0 hR.out (g := g) rfl
        have hgB : g ≠ f.B := fun e => hne (by rw [← e]; exact Hown1' g rfl)
        clear hcell hm hfd
        go_wp2_with fail
        generalize hws : wz.setCell ⟨f.B, 0, none⟩ (.slice (some ⟨g, 0, none⟩) (f.s + kn) c1) = ws at *
        clear hws
        have HV2 := Lib.hid (fun w1 (h1 : Below ws.heap.size ws w1) => (by have e := (h1.cell (p := ⟨f.B, 0, none⟩) (lt_of_block hS.out)).trans (block_cell hS.out 0); simp [go_sem, e] : (loadVar 40 ⟨f.B, 0, none⟩).run Try.prog w1 = .ok (.slice (some ⟨g, 0, none⟩) (f.s + kn) c1) w1))
        have HC2 := Lib.hid (fun w1 (h1 : Below ws.heap.size ws w1) => (by have e := (h1.cell (p := ⟨g, m, none⟩) hgl).trans Hcell.out.1; simp [go_sem, e] : (loadVar 5 ⟨g, m, none⟩).run Try.prog w1 = .ok (.int .u8 (x.toNat : Nat)) w1))
        refine wp_region_class_tail (Below ws.heap.size ws) 14 (by kernel_rfl) (by kernel_rfl) (Below.refl _ _).drew ?_
        simp only [List.take_succ_cons, List.take_zero, List.drop_succ_cons, List.drop_zero]
        repeat (go_big_quiet_step (first | (intro _; rfl)))
        refine wpQuiet_load_at rfl 40 (.tmp 41) rfl ⟨f.B, 0, none⟩ rfl (.slice (some ⟨g, 0, none⟩) (f.s + kn) c1) HV2.out ?_
        simp only [Act.put, List.setIfInBounds_toArray, List.set_cons_succ, List.set_cons_zero]
        repeat (go_big_quiet_step (first | (intro _; rfl)))
        refine wpQuiet_load_at rfl 40 (.tmp 45) rfl ⟨f.B, 0, none⟩ rfl (.slice (some ⟨g, 0, none⟩) (f.s + kn) c1) HV2.out ?_
        simp only [Act.put, List.setIfInBounds_toArray, List.set_cons_succ, List.set_cons_zero]
        repeat (go_big_quiet_step (first | (intro _; rfl)))
        refine wpQuiet_load_at rfl 5 (.tmp 49) rfl ⟨g, m, none⟩ rfl (.int .u8 (x.toNat : Nat)) HC2.out ?_
        simp only [Act.put, List.setIfInBounds_toArray, List.set_cons_succ, List.set_cons_zero]
        repeat (go_big_quiet_step (first | (intro _; rfl)))
        refine wpQuiet_nil ?_
        intro wy hBy
        have hc9 := (hBy.cell (p := ⟨g, m, none⟩) hgl).trans Hcell.out.1
        have hf9 : wy.frozen? ⟨g, m, none⟩ = false := (own_cell (l := f.d.take (f.s + kn)) (by rw [Hlen.out]; exact own_of hR.out (fun g2 hg2 => hBy.block g2 (own_lt0 hR.out hg2))) Hlen.out.symm (j := m) (by rw [Hlen.out]; omega)).2
        have HBy := Lib.hid hBy
        clear hBy
        have hS2 := Lib.hid (show (wy.setCell ⟨g, m, none⟩ (.int .u8 (y.toNat : Nat))).heap[f.B]? = some (.cells #[.slice (some ⟨g, 0, none⟩) (f.s + kn) c1, .int .i64 (f.s : Nat)] 89 (0, 0)) from (set_other _ _ _ _ _ (Ne.symm hgB)).trans ((HBy.out.block f.B (lt_of_block hS.out)).trans hS.out))
        have Hlen2 := Lib.hid (show ((f.d.take (f.s + kn)).set m y).length = f.s + kn by rw [List.length_set]; exact Hlen.out)
        have hR2 := Lib.hid (show (wy.setCell ⟨g, m, none⟩ (.int .u8 (y.toNat : Nat))).ownsRow 0 5 1 (.slice (some ⟨g, 0, none⟩) (f.s + kn) c1) (f.s + kn) (LF bV ((f.d.take (f.s + kn)).set m y)) from by
          have h := own_set (l := f.d.take (f.s + kn)) (by rw [Hlen.out]; exact own_of hR.out (fun g2 hg2 => HBy.out.block g2 (own_lt0 hR.out hg2))) m y
          rw [Hlen2.out] at h
          exact h)
        have hO2 := Lib.hid (show ∀ k, k < w.heap.size → k ∉ f.bl → (wy.setCell ⟨g, m, none⟩ (.int .u8 (y.toNat : Nat))).heap[k]? = w.heap[k]? from fun k hk hn => (set_other _ _ _ _ _ (fun e => hn (Fl.mem_bl.2 (.inr (by rw [e]; exact Hown1' g rfl))))).trans ((HBy.out.block k (Nat.lt_of_lt_of_le hk hZ.out.2.2.2)).trans (hO.out k hk (fun e => hn (Fl.mem_bl.2 (.inl e))))))
        have hZ2 := Lib.hid (show (wy.setCell ⟨g, m, none⟩ (.int .u8 (y.toNat : Nat))).os = w.os ∧ (wy.setCell ⟨g, m, none⟩ (.int .u8 (y.toNat : Nat))).tape = w.tape ∧ (wy.setCell ⟨g, m, none⟩ (.int .u8 (y.toNat : Nat))).output = w.output ∧ w.heap.size ≤ (wy.setCell ⟨g, m, none⟩ (.int .u8 (y.toNat : Nat))).heap.size from ⟨HBy.out.os.trans hZ.out.1, HBy.out.tape.trans hZ.out.2.1, HBy.out.output.trans hZ.out.2.2.1, by have h1 := HBy.out.size; have h2 := hZ.out.2.2.2; simp [World.setCell]; omega⟩)
        have d0 := block_cell hS2.out 0
        have d1 := block_cell hS2.out 1
        have g1 := block_free hS2.out 1
        go_wp2_with fail
        exact bodyPost_end (v := .tuple #[]) (by simp [results, Try.results54]) rfl ⟨rfl, ⟨f.nm, f.B, .slice (some ⟨g, 0, none⟩) (f.s + kn) c1, (f.d.take (f.s + kn)).set m y, f.s + kn⟩, rfl, rfl, by show (f.d.take (f.s + kn)).set m y = _; unfold loseD; rw [← Hkn.out, if_pos ⟨h0, rfl⟩, show f.s + kn - 1 = m by have := Hm.out; omega, ← Hx.out, ← Hy.out], Hlen2.out.symm, (Hup.out _).symm, ⟨block_set (i := 1) (u := .int .i64 (f.s + kn : Nat)) hS2.out, by have h := own_of (w' := (wy.setCell ⟨g, m, none⟩ (.int .u8 (y.toNat : Nat))).setCell ⟨f.B, 1, none⟩ (.int .i64 (f.s + kn : Nat))) hR2.out (fun g hg => set_other _ _ _ _ _ (fun e => hne (by rw [← e]; exact Hown1' g hg))); simpa [show ((f.d.take (f.s + kn)).set m y).length = f.s + kn from Hlen2.out] using h, by show f.s + kn ≤ ((f.d.take (f.s + kn)).set m y).length; rw [Hlen2.out]; exact Nat.le_refl _⟩, fun g hg => Hown1' g hg, by have h := hZ2.out.2.2.2; simpa [World.setCell] using h, fun k hk hn => (set_other _ _ _ _ _ (fun e => hn (Fl.mem_bl.2 (.inl e)))).trans (hO2.out k hk hn), hZ2.out.1, hZ2.out.2.1, hZ2.out.2.2.1⟩
    · have h0I : ¬ (0 : Int) < (kn : Int) := by omega
      have hO := Lib.hid (show ∀ k, k < w.heap.size → k ∉ f.bl → (wz.setCell ⟨f.B, 0, none⟩ (.slice p1 (f.s + kn) c1)).heap[k]? = w.heap[k]? from fun k hk hn => hO.out k hk (fun e => hn (Fl.mem_bl.2 (.inl e))))
      go_wp2_with fail
      exact bodyPost_end (v := .tuple #[]) (by simp [results, Try.results54]) rfl ⟨rfl, ⟨f.nm, f.B, .slice p1 (f.s + kn) c1, f.d.take (f.s + kn), f.s + kn⟩, rfl, rfl, by show f.d.take (f.s + kn) = _; unfold loseD; rw [← Hkn.out, if_neg (by omega)], Hlen.out.symm, (Hup.out _).symm, ⟨block_set (i := 1) (u := .int .i64 (f.s + kn : Nat)) hS.out, by have h := own_of (w' := (wz.setCell ⟨f.B, 0, none⟩ (.slice p1 (f.s + kn) c1)).setCell ⟨f.B, 1, none⟩ (.int .i64 (f.s + kn : Nat))) hR.out (fun g hg => set_other _ _ _ _ _ (fun e => hne (by rw [← e]; exact Hown1' g hg))); simpa [show (f.d.take (f.s + kn)).length = f.s + kn from Hlen.out] using h, by show f.s + kn ≤ (f.d.take (f.s + kn)).length; rw [Hlen.out]; exact Nat.le_refl _⟩, fun g hg => Hown1' g hg, by have h := hZ.out.2.2.2; simpa [World.setCell] using h, fun k hk hn => (set_other _ _ _ _ _ (fun e => hn (Fl.mem_bl.2 (.inl e)))).trans (hO.out k hk hn), hZ.out.1, hZ.out.2.1, hZ.out.2.2.1⟩
  · clear hkd
    have k4 : ¬ keep ≤ (f.d.length : Int) - f.s := by omega
    have k5 : ¬ keep ≤ (kn : Int) := by omega
    go_enter Try.func54, Try.ntmps54
    go_wp2_with fail
    refine wp_region_class (Below w.heap.size w) (by kernel_rfl) (by kernel_rfl) (Below.refl _ _).drew ?_
    repeat (go_big_quiet_step (first | (intro _; rfl)))
    refine wpQuiet_load_at rfl 40 (.tmp 11) rfl ⟨f.B, 0, none⟩ rfl (.slice pv f.d.length cv) HV0.out ?_
    simp only [Act.put, List.setIfInBounds_toArray, List.set_cons_succ, List.set_cons_zero]
    repeat (go_big_quiet_step (first | (intro _; rfl)))
    refine wpQuiet_load_at rfl 3 (.tmp 16) rfl ⟨f.B, 1, none⟩ rfl (.int .i64 (f.s : Nat)) HS0.out ?_
    simp only [Act.put, List.setIfInBounds_toArray, List.set_cons_succ, List.set_cons_zero]
    repeat (go_big_quiet_step (first | (intro _; rfl)))
    refine wpQuiet_nil ?_
    intro wq hBq
    try rw [k3]
    have HB1 := Lib.hid hBq
    have hbx := (hBq.block f.B (lt_of_block Hbox.out)).trans Hbox.out
    have Hbx := Lib.hid hbx
    have HV1 := Lib.hid (fun w1 (h1 : Below wq.heap.size wq w1) => (by have e := (h1.cell (p := ⟨f.B, 0, none⟩) (lt_of_block Hbx.out)).trans (block_cell Hbx.out 0); simp [go_sem, e] : (loadVar 40 ⟨f.B, 0, none⟩).run Try.prog w1 = .ok (.slice pv f.d.length cv) w1))
    have HS1 := Lib.hid (fun w1 (h1 : Below wq.heap.size wq w1) => (by have e := (h1.cell (p := ⟨f.B, 1, none⟩) (lt_of_block Hbx.out)).trans (block_cell Hbx.out 1); simp [go_sem, e] : (loadVar 3 ⟨f.B, 1, none⟩).run Try.prog w1 = .ok (.int .i64 (f.s : Nat)) w1))
    clear hBq hbx
    go_wp2_with fail
    refine wp_region_class_tail (Below wq.heap.size wq) 14 (by kernel_rfl) (by kernel_rfl) (Below.refl _ _).drew ?_
    simp only [List.take_succ_cons, List.take_zero, List.drop_succ_cons, List.drop_zero]
    repeat (go_big_quiet_step (first | (intro _; rfl)))
    refine wpQuiet_load_at rfl 40 (.tmp 23) rfl ⟨f.B, 0, none⟩ rfl (.slice pv f.d.length cv) HV1.out ?_
    simp only [Act.put, List.setIfInBounds_toArray, List.set_cons_succ, List.set_cons_zero]
    repeat (go_big_quiet_step (first | (intro _; rfl)))
    refine wpQuiet_load_at rfl 3 (.tmp 27) rfl ⟨f.B, 1, none⟩ rfl (.int .i64 (f.s : Nat)) HS1.out ?_
    simp only [Act.put, List.setIfInBounds_toArray, List.set_cons_succ, List.set_cons_zero]
    repeat (go_big_quiet_step (first | (intro _; rfl)))
    refine wpQuiet_upto_at rfl 40 (.tmp 24) (.tmp 30) rfl (.slice pv f.d.length cv) (.int .i64 (f.s + kn : Nat)) (.slice p1 (f.s + kn) c1) rfl rfl Hsl.out ?_
    simp only [Act.put, List.setIfInBounds_toArray, List.set_cons_succ, List.set_cons_zero]
    repeat (go_big_quiet_step (first | (intro _; rfl)))
    refine wpQuiet_nil ?_
    intro wz hBz
    have hB2 := HB1.out.trans (hBz.mono HB1.out.size)
    have hbx2 := (hBz.block f.B (lt_of_block Hbx.out)).trans Hbx.out
    have c0 := block_cell hbx2 0
    have f0 := block_free hbx2 0
    have hS := Lib.hid (show (wz.setCell ⟨f.B, 0, none⟩ (.slice p1 (f.s + kn) c1)).heap[f.B]? = some (.cells #[.slice p1 (f.s + kn) c1, .int .i64 (f.s : Nat)] 89 (0, 0)) from block_set (i := 0) (u := .slice p1 (f.s + kn) c1) hbx2)
    have hR := Lib.hid (own_of (w' := wz.setCell ⟨f.B, 0, none⟩ (.slice p1 (f.s + kn) c1)) Hrow1.out (fun g hg => (set_other _ _ _ _ _ (fun e => hne (by rw [← e]; exact Hown1' g hg))).trans (hB2.block g ((own_lt0 Hrow1.out hg)))))
    have hO := Lib.hid (show ∀ k, k < w.heap.size → k ≠ f.B → (wz.setCell ⟨f.B, 0, none⟩ (.slice p1 (f.s + kn) c1)).heap[k]? = w.heap[k]? from fun k hk hne => (set_other _ _ _ _ _ hne).trans (hB2.block k hk))
    have hZ := Lib.hid (show (wz.setCell ⟨f.B, 0, none⟩ (.slice p1 (f.s + kn) c1)).os = w.os ∧ (wz.setCell ⟨f.B, 0, none⟩ (.slice p1 (f.s + kn) c1)).tape = w.tape ∧ (wz.setCell ⟨f.B, 0, none⟩ (.slice p1 (f.s + kn) c1)).output = w.output ∧ w.heap.size ≤ (wz.setCell ⟨f.B, 0, none⟩ (.slice p1 (f.s + kn) c1)).heap.size from ⟨hB2.os, hB2.tape, hB2.output, by simp [World.setCell]; exact hB2.size⟩)
    have d0 := block_cell hS.out 0
    have d1 := block_cell hS.out 1
    have g1 := block_free hS.out 1
    clear hB2 hbx2 hBz
    have Hlen := Lib.hid (show (f.d.take (f.s + kn)).length = f.s + kn by rw [List.length_take]; omega)
    by_cases h0 : 0 < kn
    · have h0I : (0 : Int) < (kn : Int) := by omega
      cases torn with
      | false =>
        have hO := Lib.hid (show ∀ k, k < w.heap.size → k ∉ f.bl → (wz.setCell ⟨f.B, 0, none⟩ (.slice p1 (f.s + kn) c1)).heap[k]? = w.heap[k]? from fun k hk hn => hO.out k hk (fun e => hn (Fl.mem_bl.2 (.inl e))))
        go_wp2_with fail
        exact bodyPost_end (v := .tuple #[]) (by simp [results, Try.results54]) rfl ⟨rfl, ⟨f.nm, f.B, .slice p1 (f.s + kn) c1, f.d.take (f.s + kn), f.s + kn⟩, rfl, rfl, by show f.d.take (f.s + kn) = _; unfold loseD; rw [← Hkn.out, if_neg (by simp)], Hlen.out.symm, (Hup.out _).symm, ⟨block_set (i := 1) (u := .int .i64 (f.s + kn : Nat)) hS.out, by have h := own_of (w' := (wz.setCell ⟨f.B, 0, none⟩ (.slice p1 (f.s + kn) c1)).setCell ⟨f.B, 1, none⟩ (.int .i64 (f.s + kn : Nat))) hR.out (fun g hg => set_other _ _ _ _ _ (fun e => hne (by rw [← e]; exact Hown1' g hg))); simpa [show (f.d.take (f.s + kn)).length = f.s + kn from Hlen.out] using h, by show f.s + kn ≤ (f.d.take (f.s + kn)).length; rw [Hlen.out]; exact Nat.le_refl _⟩, fun g hg => Hown1' g hg, by have h := hZ.out.2.2.2; simpa [World.setCell] using h, fun k hk hn => (set_other _ _ _ _ _ (fun e => hn (Fl.mem_bl.2 (.inl e)))).trans (hO.out k hk hn), hZ.out.1, hZ.out.2.1, hZ.out.2.2.1⟩
      | true =>
        obtain ⟨g, rfl⟩ : ∃ g, p1 = some ⟨g, 0, none⟩ := by
          rcases Hrow1.out.2 with ⟨_, h1⟩ | ⟨g, cap, cur, hv, _⟩
          · omega
          · injection hv with e1; exact ⟨g, e1⟩
        have hfd : ∀ j, j < f.s + kn → (f.d.take (f.s + kn)).getD j 0 = f.d.getD j 0 := fun j hj => by
          rw [List.getD_eq_getElem?_getD, List.getD_eq_getElem?_getD, List.getElem?_take_of_lt hj]
        have hcell := own_cell (l := f.d.take (f.s + kn)) (by rw [Hlen.out]; exact hR.out) Hlen.out.symm (j := f.s + kn - 1) (by rw [Hlen.out]; omega)
        have hnb : f.s + kn ≤ 16777216 := by omega
        obtain ⟨m, hm⟩ : ∃ m, f.s + kn = m + 1 := ⟨f.s + kn - 1, by omega⟩
        rw [show f.s + kn - 1 = m by omega, hfd m (by omega)] at hcell
        have hm1 : ((f.s + kn : Nat) : Int) - 1 = (m : Int) := by omega
        have hm2 : (f.s : Int) + (kn : Int) - 1 = (m : Int) := by omega
        have hwm : IntKind.i64.wrap (m : Int) = (m : Int) := by simp [IntKind.wrap, IntKind.bits, IntKind.signed]; omega
        have hml : (m : Int) < ((f.s + kn : Nat) : Int) := by omega
        have hml2 : (m : Int) < (f.s : Int) + (kn : Int) := by omega
        have hm0 : (0 : Int) ≤ (m : Int) := by omega
        obtain ⟨x, hx⟩ : ∃ x, x = f.d.getD m 0 := ⟨_, rfl⟩
        rw [← hx] at hcell
        have Hx := Lib.hid hx
        have hxb := xor_byte x
        obtain ⟨y, hy⟩ : ∃ y, y = x ^^^ 255 := ⟨_, rfl⟩
        rw [← hy] at hxb
        have Hy := Lib.hid hy
        clear hx hy
        have Hcell := Lib.hid hcell
        have Hm := Lib.hid hm
        have hgl := own_lt0 hR.out (g := g) rfl
        have hgB : g ≠ f.B := fun e => hne (by rw [← e]; exact Hown1' g rfl)
        clear hcell hm hfd
        go_wp2_with fail
        generalize hws : wz.setCell ⟨f.B, 0, none⟩ (.slice (some ⟨g, 0, none⟩) (f.s + kn) c1) = ws at *
        clear hws
        have HV2 := Lib.hid (fun w1 (h1 : Below ws.heap.size ws w1) => (by have e := (h1.cell (p := ⟨f.B, 0, none⟩) (lt_of_block hS.out)).trans (block_cell hS.out 0); simp [go_sem, e] : (loadVar 40 ⟨f.B, 0, none⟩).run Try.prog w1 = .ok (.slice (some ⟨g, 0, none⟩) (f.s + kn) c1) w1))
        have HC2 := Lib.hid (fun w1 (h1 : Below ws.heap.size ws w1) => (by have e := (h1.cell (p := ⟨g, m, none⟩) hgl).trans Hcell.out.1; simp [go_sem, e] : (loadVar 5 ⟨g, m, none⟩).run Try.prog w1 = .ok (.int .u8 (x.toNat : Nat)) w1))
        refine wp_region_class_tail (Below ws.heap.size ws) 14 (by kernel_rfl) (by kernel_rfl) (Below.refl _ _).drew ?_
        simp only [List.take_succ_cons, List.take_zero, List.drop_succ_cons, List.drop_zero]
        repeat (go_big_quiet_step (first | (intro _; rfl)))
        refine wpQuiet_load_at rfl 40 (.tmp 41) rfl ⟨f.B, 0, none⟩ rfl (.slice (some ⟨g, 0, none⟩) (f.s + kn) c1) HV2.out ?_
        simp only [Act.put, List.setIfInBounds_toArray, List.set_cons_succ, List.set_cons_zero]
        repeat (go_big_quiet_step (first | (intro _; rfl)))
        refine wpQuiet_load_at rfl 40 (.tmp 45) rfl ⟨f.B, 0, none⟩ rfl (.slice (some ⟨g, 0, none⟩) (f.s + kn) c1) HV2.out ?_
        simp only [Act.put, List.setIfInBounds_toArray, List.set_cons_succ, List.set_cons_zero]
        repeat (go_big_quiet_step (first | (intro _; rfl)))
        refine wpQuiet_load_at rfl 5 (.tmp 49) rfl ⟨g, m, none⟩ rfl (.int .u8 (x.toNat : Nat)) HC2.out ?_
        simp only [Act.put, List.setIfInBounds_toArray, List.set_cons_succ, List.set_cons_zero]
        repeat (go_big_quiet_step (first | (intro _; rfl)))
        refine wpQuiet_nil ?_
        intro wy hBy
        have hc9 := (hBy.cell (p := ⟨g, m, none⟩) hgl).trans Hcell.out.1
        have hf9 : wy.frozen? ⟨g, m, none⟩ = false := (own_cell (l := f.d.take (f.s + kn)) (by rw [Hlen.out]; exact own_of hR.out (fun g2 hg2 => hBy.block g2 (own_lt0 hR.out hg2))) Hlen.out.symm (j := m) (by rw [Hlen.out]; omega)).2
        have HBy := Lib.hid hBy
        clear hBy
        have hS2 := Lib.hid (show (wy.setCell ⟨g, m, none⟩ (.int .u8 (y.toNat : Nat))).heap[f.B]? = some (.cells #[.slice (some ⟨g, 0, none⟩) (f.s + kn) c1, .int .i64 (f.s : Nat)] 89 (0, 0)) from (set_other _ _ _ _ _ (Ne.symm hgB)).trans ((HBy.out.block f.B (lt_of_block hS.out)).trans hS.out))
        have Hlen2 := Lib.hid (show ((f.d.take (f.s + kn)).set m y).length = f.s + kn by rw [List.length_set]; exact Hlen.out)
        have hR2 := Lib.hid (show (wy.setCell ⟨g, m, none⟩ (.int .u8 (y.toNat : Nat))).ownsRow 0 5 1 (.slice (some ⟨g, 0, none⟩) (f.s + kn) c1) (f.s + kn) (LF bV ((f.d.take (f.s + kn)).set m y)) from by
          have h := own_set (l := f.d.take (f.s + kn)) (by rw [Hlen.out]; exact own_of hR.out (fun g2 hg2 => HBy.out.block g2 (own_lt0 hR.out hg2))) m y
          rw [Hlen2.out] at h
          exact h)
        have hO2 := Lib.hid (show ∀ k, k < w.heap.size → k ∉ f.bl → (wy.setCell ⟨g, m, none⟩ (.int .u8 (y.toNat : Nat))).heap[k]? = w.heap[k]? from fun k hk hn => (set_other _ _ _ _ _ (fun e => hn (Fl.mem_bl.2 (.inr (by rw [e]; exact Hown1' g rfl))))).trans ((HBy.out.block k (Nat.lt_of_lt_of_le hk hZ.out.2.2.2)).trans (hO.out k hk (fun e => hn (Fl.mem_bl.2 (.inl e))))))
        have hZ2 := Lib.hid (show (wy.setCell ⟨g, m, none⟩ (.int .u8 (y.toNat : Nat))).os = w.os ∧ (wy.setCell ⟨g, m, none⟩ (.int .u8 (y.toNat : Nat))).tape = w.tape ∧ (wy.setCell ⟨g, m, none⟩ (.int .u8 (y.toNat : Nat))).output = w.output ∧ w.heap.size ≤ (wy.setCell ⟨g, m, none⟩ (.int .u8 (y.toNat : Nat))).heap.size from ⟨HBy.out.os.trans hZ.out.1, HBy.out.tape.trans hZ.out.2.1, HBy.out.output.trans hZ.out.2.2.1, by have h1 := HBy.out.size; have h2 := hZ.out.2.2.2; simp [World.setCell]; omega⟩)
        have d0 := block_cell hS2.out 0
        have d1 := block_cell hS2.out 1
        have g1 := block_free hS2.out 1
        go_wp2_with fail
        exact bodyPost_end (v := .tuple #[]) (by simp [results, Try.results54]) rfl ⟨rfl, ⟨f.nm, f.B, .slice (some ⟨g, 0, none⟩) (f.s + kn) c1, (f.d.take (f.s + kn)).set m y, f.s + kn⟩, rfl, rfl, by show (f.d.take (f.s + kn)).set m y = _; unfold loseD; rw [← Hkn.out, if_pos ⟨h0, rfl⟩, show f.s + kn - 1 = m by have := Hm.out; omega, ← Hx.out, ← Hy.out], Hlen2.out.symm, (Hup.out _).symm, ⟨block_set (i := 1) (u := .int .i64 (f.s + kn : Nat)) hS2.out, by have h := own_of (w' := (wy.setCell ⟨g, m, none⟩ (.int .u8 (y.toNat : Nat))).setCell ⟨f.B, 1, none⟩ (.int .i64 (f.s + kn : Nat))) hR2.out (fun g hg => set_other _ _ _ _ _ (fun e => hne (by rw [← e]; exact Hown1' g hg))); simpa [show ((f.d.take (f.s + kn)).set m y).length = f.s + kn from Hlen2.out] using h, by show f.s + kn ≤ ((f.d.take (f.s + kn)).set m y).length; rw [Hlen2.out]; exact Nat.le_refl _⟩, fun g hg => Hown1' g hg, by have h := hZ2.out.2.2.2; simpa [World.setCell] using h, fun k hk hn => (set_other _ _ _ _ _ (fun e => hn (Fl.mem_bl.2 (.inl e)))).trans (hO2.out k hk hn), hZ2.out.1, hZ2.out.2.1, hZ2.out.2.2.1⟩
    · have h0I : ¬ (0 : Int) < (kn : Int) := by omega
      have hO := Lib.hid (show ∀ k, k < w.heap.size → k ∉ f.bl → (wz.setCell ⟨f.B, 0, none⟩ (.slice p1 (f.s + kn) c1)).heap[k]? = w.heap[k]? from fun k hk hn => hO.out k hk (fun e => hn (Fl.mem_bl.2 (.inl e))))
      go_wp2_with fail
      exact bodyPost_end (v := .tuple #[]) (by simp [results, Try.results54]) rfl ⟨rfl, ⟨f.nm, f.B, .slice p1 (f.s + kn) c1, f.d.take (f.s + kn), f.s + kn⟩, rfl, rfl, by show f.d.take (f.s + kn) = _; unfold loseD; rw [← Hkn.out, if_neg (by omega)], Hlen.out.symm, (Hup.out _).symm, ⟨block_set (i := 1) (u := .int .i64 (f.s + kn : Nat)) hS.out, by have h := own_of (w' := (wz.setCell ⟨f.B, 0, none⟩ (.slice p1 (f.s + kn) c1)).setCell ⟨f.B, 1, none⟩ (.int .i64 (f.s + kn : Nat))) hR.out (fun g hg => set_other _ _ _ _ _ (fun e => hne (by rw [← e]; exact Hown1' g hg))); simpa [show (f.d.take (f.s + kn)).length = f.s + kn from Hlen.out] using h, by show f.s + kn ≤ (f.d.take (f.s + kn)).length; rw [Hlen.out]; exact Nat.le_refl _⟩, fun g hg => Hown1' g hg, by have h := hZ.out.2.2.2; simpa [World.setCell] using h, fun k hk hn => (set_other _ _ _ _ _ (fun e => hn (Fl.mem_bl.2 (.inl e)))).trans (hO.out k hk hn), hZ.out.1, hZ.out.2.1, hZ.out.2.2.1⟩
end Go.Proofs.Ytbdlmdmbaajcmaa
namespace Go.Proofs.Ytbdlmdmbaajcmaa
set_option linter.unusedVariables false
set_option linter.unusedSimpArgs false
open Go.ChangeShapes Go.WideShapes Go.ChangeAt Go.RowKit

def keyL (x : ByteArray) : Lit := .string x.data.toList
theorem keyL_ne {x y : ByteArray} (h : x ≠ y) : keyL x ≠ keyL y := fun e => h (by
  unfold keyL at e
  injection e with e
  exact ByteArray.ext (Array.ext' e))
theorem keyL_same (x y : ByteArray) : (keyL x).sameKey (keyL y) = decide (x = y) := by
  by_cases h : x = y
  · subst h
    rw [decide_eq_true rfl]
    exact WideAt.sameKey_self (show WideAt.IsKeyLit (keyL x) from trivial)
  · rw [decide_eq_false h]
    exact Maps.sameKey_ne (keyL_ne h)
/-- What the map's datum says of the files. -/
def DOk (D : DataW Unit) (L : List Fl) : Prop := ∀ x : ByteArray, x.size ≤ maxLen → ∀ z, D.atKey (.string x.data.toList) z = match look L x with | some f => ptrD (some f.B) | none => z
theorem DOk.step {D : DataW Unit} {L : List Fl} (h : DOk D L) {x : ByteArray} {c : Option Nat} {kl : Lit} {y : DataW Unit × List MemPlace} (hkey : keyOf Try.prog 9 (.string x) = some kl) (hv : ptrR (ptrV c) = some y) (hat : ∀ zd, D.atKey kl zd = y.1) : ∃ f, look L x = some f ∧ c = some f.B ∧ kl = keyL x := by
  obtain ⟨x', e1, e2, e3⟩ := keyS_inv hkey
  injection e1 with e1
  subst e1
  rw [ptrR_v] at hv
  injection hv with hv
  subst hv
  cases hl : look L x with
  | none =>
    have h1 := hat (ptrD (some 0))
    have h2 := hat (ptrD none)
    rw [e2, h x e3, hl] at h1 h2
    exact absurd (ptrD_inj (h1.trans h2.symm)) (by simp)
  | some f =>
    have h1 := hat (ptrD none)
    rw [e2, h x e3, hl] at h1
    exact ⟨f, rfl, (ptrD_inj h1).symm, e2⟩
theorem DOk.has {D : DataW Unit} {L : List Fl} (h : DOk D L) (hn : (L.map Fl.nm).Nodup) {f : Fl} (hf : f ∈ L) (h32 : f.nm.size ≤ 32) : Maps.has D (keyL f.nm) = true :=
  Maps.has_true_of_atKey (y := ptrD (some f.B)) (fun z => by
    have := h f.nm (by unfold maxLen; omega) z
    rw [look_mem hn hf] at this
    exact this)
def strike (left : Lit → Bool) (kl : Lit) : Lit → Bool := fun z => left z && !z.sameKey kl
theorem strike_other {left : Lit → Bool} {x y : ByteArray} (h : y ≠ x) : strike left (keyL x) (keyL y) = left (keyL y) := by
  unfold strike; rw [keyL_same, decide_eq_false h]; simp
theorem strike_self {left : Lit → Bool} {x : ByteArray} : strike left (keyL x) (keyL x) = false := by
  unfold strike; rw [keyL_same, decide_eq_true rfl]; simp
def total (L : List Fl) : Nat := (L.map fun f => f.d.length).sum
def doneSum (left : Lit → Bool) (L : List Fl) : Nat := (L.map fun f => if left (keyL f.nm) = true then 0 else f.d.length).sum
theorem done_start {left : Lit → Bool} : ∀ {L : List Fl}, (∀ f ∈ L, left (keyL f.nm) = true) → doneSum left L = 0
  | [], _ => rfl
  | f :: L, h => by
    unfold doneSum
    rw [List.map_cons, List.sum_cons, if_pos (h f List.mem_cons_self), Nat.zero_add]
    exact done_start (fun g hg => h g (List.mem_cons_of_mem _ hg))
theorem done_end {left : Lit → Bool} : ∀ {L : List Fl}, (∀ kl, left kl = false) → doneSum left L = total L
  | [], _ => rfl
  | f :: L, h => by
    unfold doneSum total
    rw [List.map_cons, List.sum_cons, if_neg (by rw [h]; decide), List.map_cons, List.sum_cons]
    congr 1
    exact done_end h
theorem done_skip {left : Lit → Bool} {x : ByteArray} : ∀ {L : List Fl}, (∀ f ∈ L, f.nm ≠ x) → doneSum (strike left (keyL x)) L = doneSum left L
  | [], _ => rfl
  | f :: L, h => by
    unfold doneSum
    rw [List.map_cons, List.sum_cons, List.map_cons, List.sum_cons, strike_other (h f List.mem_cons_self)]
    congr 1
    exact done_skip (fun g hg => h g (List.mem_cons_of_mem _ hg))
theorem done_step {left : Lit → Bool} {f : Fl} : ∀ {L : List Fl}, (L.map Fl.nm).Nodup → f ∈ L → left (keyL f.nm) = true → doneSum (strike left (keyL f.nm)) L = doneSum left L + f.d.length
  | g :: L, hn, hf, hl => by
    rw [List.map_cons, List.nodup_cons] at hn
    rcases List.mem_cons.1 hf with e | hf2
    · subst e
      have h1 := done_skip (left := left) (x := f.nm) (L := L) (fun g hg e => hn.1 (e ▸ List.mem_map_of_mem hg))
      unfold doneSum at h1 ⊢
      rw [List.map_cons, List.sum_cons, List.map_cons, List.sum_cons, strike_self, hl, if_neg (by decide), if_pos rfl, h1]
      omega
    · have hne : g.nm ≠ f.nm := fun e => hn.1 (e ▸ List.mem_map_of_mem hf2)
      have h1 := done_step hn.2 hf2 hl
      unfold doneSum at h1 ⊢
      rw [List.map_cons, List.sum_cons, List.map_cons, List.sum_cons, strike_other hne, h1]
      omega
theorem done_le {left : Lit → Bool} : ∀ {L : List Fl}, doneSum left L ≤ total L
  | [] => Nat.le_refl _
  | f :: L => by
    have := done_le (left := left) (L := L)
    unfold doneSum total at this ⊢
    rw [List.map_cons, List.sum_cons, List.map_cons, List.sum_cons]
    split <;> omega
theorem ranges_of {w w' : World} {mb r n : Nat} {D : DataW Unit} {left : Lit → Bool} {cnt : Nat} (h : w.ranges Try.prog 9 ptrR mb r n D left cnt) (e1 : w'.heap[mb]? = w.heap[mb]?) (e2 : w'.heap[r]? = w.heap[r]?) : w'.ranges Try.prog 9 ptrR mb r n D left cnt := by
  obtain ⟨es, clock, since, seen, c0, hb, F, hs, hD, hr, rest⟩ := h
  exact ⟨es, clock, since, seen, c0, e1.trans hb, F, hs, hD, e2.trans hr, rest⟩
theorem invK9 : ∀ key kl, keyOf Try.prog 9 key = some kl → ∃ x, key = Value.string x := fun key kl h => by
  obtain ⟨x, e, _⟩ := keyS_inv h; exact ⟨x, e⟩
theorem invV9 : ∀ v y, ptrR v = some y → ∃ c, v = ptrV c := fun v y h => by
  obtain ⟨c, e, _⟩ := ptrR_inv h; exact ⟨c, e⟩
set_option maxRecDepth 100000 in
set_option maxHeartbeats 1000000 in
theorem free_any {S : Nat → Prop} {b : Nat} {h : Hd} {L : List Fl} {w : World} (d : Dev S b h L w) (hr : 0 ≤ h.room ∧ h.room ≤ 1048576) (ht : total L ≤ 16777216) : Calls Try.prog 16 #[.pointer (some ⟨b, 0, none⟩)] w fun e w' => e = .returned (.int .i64 (h.room - (total L : Nat))) ∧ Below w.heap.size w w' := by
  have HD := Lib.hid d
  obtain ⟨mb, hb, hm, _⟩ := d.f
  obtain ⟨D, hown, hsz, hD⟩ := hm.own
  have HDk := Lib.hid (show DOk D L from hD)
  obtain ⟨room, acts, down, left0, keep, torn⟩ := h
  have c0 : w.cell? ⟨b, 0, none⟩ = some (.int .i64 room) := block_cell hb 0
  have c1 : w.cell? ⟨b, 1, none⟩ = some (.map (some mb)) := block_cell hb 1
  have Hown := Lib.hid hown
  have hr1 : 0 ≤ room := hr.1
  have hr2 : room ≤ 1048576 := hr.2
  have Hst := Lib.hid (done_start (left := Maps.has D) (fun f hf => (show DOk D L from hD).has d.nm hf (d.n32 f hf)))
  clear d hb hm hsz hD hown hr
  go_enter Try.func16, Try.ntmps16
  go_wp2_with (first | (at_range; refine wpList_range_own _ rfl _ 68 rfl 9 84 key9 Try.underlying68 ptrR mb L.length D rfl Hown.out ?_; intro w0 hrg0 hg0 hs0))
  go_frame
  go_loopg [3] (Maps.size D) (fun g fv wr => ∃ left : Lit → Bool, wr.ranges Try.prog 9 ptrR mb w.heap.size L.length D left g ∧ fv = .int .i64 (room - (doneSum left L : Nat)) ∧ Below w.heap.size w wr)
  case atStart => exact ⟨_, hrg0, by rw [Hst.out]; simp, ⟨hg0.os, hg0.tape, hg0.output, hg0.size, fun k hk => hg0.block k hk (by simp)⟩⟩
  case round =>
    obtain ⟨left, hrg, rfl, hB⟩ := hrel
    have hdl := done_le (left := left) (L := L)
    go_wp2_with (first | (at_next; refine wpList_next_ranges _ rfl _ rfl 9 key9 ptrR Value.string ptrV invK9 invV9 mb w.heap.size L.length _ _ _ rfl hrg ?_ ?_))
    · intro _ hl0
      have he := done_end (L := L) hl0
      go_wp2_with fail
      go_ret
      exact ⟨by rw [he]; rfl, hB⟩
    · intro x c kl y1 y2 w1 cnt1 hkey hlk hv hat hrg1 hlt hg1 hs1 hen
      obtain ⟨f, hl, rfl, rfl⟩ := HDk.out.step (y := (y1, y2)) hkey hv hat
      obtain ⟨hf, hfn⟩ := look_some hl
      have hB1 : Below w.heap.size w w1 := hB.grown hg1 hB.size (fun k hk => by injection hk with hk; omega)
      have hfo := HD.out.fo f hf
      have hbx := (hB1.block f.B (lt_of_block hfo.box)).trans hfo.box
      obtain ⟨pv, cv, hvv⟩ := row_shape hfo
      have d0 : w1.cell? ⟨f.B, 0, none⟩ = some f.v := block_cell hbx 0
      rw [hvv] at d0
      have hst := done_step (left := left) HD.out.nm hf (by rw [hfn]; exact hlk)
      rw [hfn] at hst
      have hdl2 := done_le (left := strike left (keyL x)) (L := L)
      have hen2 : (Instr.entry (.pointer (some ⟨w.heap.size, 0, none⟩))).run Try.prog w1 = .ok (.tuple #[.string x, .pointer (some ⟨f.B, 0, none⟩)]) w1 := hen
      have HR1 := Lib.hid hrg1
      have HB1 := Lib.hid hB1
      have Hst2 := Lib.hid hst
      clear hrg1 hrg hB hB1 hst hat hkey hv hlk hg1 hen hfo hbx hvv
      go_wp2_with fail
      go_roundg cnt1
      case measure => exact hlt
      case rel => exact ⟨strike left (keyL x), HR1.out, by rw [Hst2.out]; exact congrArg (Value.int .i64) (by have h2 := Hst2.out; unfold wrap64; omega), HB1.out⟩
end Go.Proofs.Ytbdlmdmbaajcmaa
namespace Go.Proofs.Ytbdlmdmbaajcmaa
set_option linter.unusedVariables false
set_option linter.unusedSimpArgs false
open Go.ChangeShapes Go.WideShapes Go.ChangeAt Go.RowKit

def offH (h : Hd) : Hd := ⟨h.room, h.acts, true, 0, 0, false⟩
theorem look_map {L : List Fl} {φ : Fl → Fl} (h : ∀ f, (φ f).nm = f.nm) (x : ByteArray) : look (L.map φ) x = (look L x).map φ := by
  unfold look
  induction L with
  | nil => rfl
  | cons f L ih =>
    rw [List.map_cons, List.find?_cons, List.find?_cons, h f]
    by_cases hx : f.nm = x
    · rw [decide_eq_true hx]; rfl
    · rw [decide_eq_false hx]; exact ih
theorem loseF_bl {keep : Int} {torn : Bool} {f : Fl} {w : World} (hf : Fok w f) : (loseF keep torn f).bl = f.bl := by
  obtain ⟨p, c, hv⟩ := row_shape hf
  unfold Fl.bl loseF
  simp only [hv, uptoV]
  cases p <;> rfl
/-- The power goes: each file has lost what it must. -/
theorem Dev.lose {S : Nat → Prop} {b : Nat} {h h' : Hd} {L : List Fl} {w w' : World} {keep : Int} {torn : Bool} (d : Dev S b h L w) (hb : ∀ mb, w.heap[b]? = some (.cells (hdV h mb) 72 (0, 0)) → w'.heap[b]? = some (.cells (hdV h' mb) 72 (0, 0)))
    (hm : ∀ mb, MapOk mb L w → w.heap[b]? = some (.cells (hdV h mb) 72 (0, 0)) → w'.heap[mb]? = w.heap[mb]?) (hf : ∀ f ∈ L, Fok w' (loseF keep torn f)) : Dev S b h' (L.map (loseF keep torn)) w' := by
  obtain ⟨mb, h1, h2, h3, h4, h5, h6⟩ := d.f
  have hbl : ∀ f ∈ L, (loseF keep torn f).bl = f.bl := fun f hf => loseF_bl (d.fo f hf)
  have hmem : ∀ g ∈ L.map (loseF keep torn), ∃ f ∈ L, g = loseF keep torn f := fun g hg => by
    obtain ⟨f, hf, e⟩ := List.mem_map.1 hg; exact ⟨f, hf, e.symm⟩
  have hnm : ∀ f, (loseF keep torn f).nm = f.nm := fun _ => rfl
  refine ⟨⟨mb, hb mb h1, ?_, h3, ?_, h5, h6⟩, ?_, ?_, ?_, ?_, ?_⟩
  · obtain ⟨D, q1, q2, q3⟩ := (h2.of_block (hm mb h2 h1)).own
    refine ⟨D, by rw [List.length_map]; exact q1, by rw [List.length_map]; exact q2, fun x hx z => ?_⟩
    rw [q3 x hx z, look_map hnm]
    cases look L x <;> rfl
  · intro g hg
    obtain ⟨f, hf, rfl⟩ := hmem g hg
    have hx := h4 f hf
    refine ⟨by rw [hbl f hf]; exact hx.1, by rw [hbl f hf]; exact hx.2.1, ?_⟩
    obtain ⟨p, c, hv⟩ := row_shape (d.fo f hf)
    have h9 := hx.2.2
    rw [hv] at h9
    show (uptoV f.v _).ownBlock ≠ some f.B
    rw [hv]
    cases p <;> exact h9
  · intro g hg
    obtain ⟨f, hf2, rfl⟩ := hmem g hg
    exact hf f hf2
  · rw [List.map_map, show (Fl.nm ∘ loseF keep torn) = Fl.nm from rfl]; exact d.nm
  · intro g hg
    obtain ⟨f, hf2, rfl⟩ := hmem g hg
    exact d.n32 f hf2
  · intro g hg g2 hg2 hne k hk
    obtain ⟨f, hf2, rfl⟩ := hmem g hg
    obtain ⟨f2, hf3, rfl⟩ := hmem g2 hg2
    rw [hbl f hf2] at hk
    rw [hbl f2 hf3]
    exact d.ff f hf2 f2 hf3 hne k hk
  · intro g hg k hk
    obtain ⟨f, hf2, rfl⟩ := hmem g hg
    rw [hbl f hf2] at hk
    exact d.ss f hf2 k hk
set_option maxRecDepth 100000 in
theorem off_down {S : Nat → Prop} {b : Nat} {h : Hd} {L : List Fl} {w : World} (d : Dev S b h L w) (hd : h.down = true) (keep : Int) (torn : Bool) : Calls Try.prog 29 #[.pointer (some ⟨b, 0, none⟩), .int .i64 keep, .bool torn] w fun e w' => e = .returned (.tuple #[]) ∧ w = w' := by
  obtain ⟨mb, hb, _⟩ := d.f
  obtain ⟨room, acts, down, left, keep0, torn0⟩ := h
  obtain rfl : down = true := hd
  have c3 : w.cell? ⟨b, 3, none⟩ = some (.bool true) := block_cell hb 3
  clear d hb
  go_enter Try.func29, Try.ntmps29
  go_wp2_with fail
  (try simp only [Exit.inBlock, Exit.then])
  exact bodyPost_ret (v := .tuple #[]) (by simp [results, Try.results29]) rfl ⟨rfl, rfl⟩
set_option maxRecDepth 100000 in
set_option maxHeartbeats 2000000 in
theorem off_any {S : Nat → Prop} {b : Nat} {h : Hd} {L : List Fl} {w : World} (d : Dev S b h L w) (hd : h.down = false) (keep : Int) (torn : Bool) (ht : ∀ f ∈ L, f.d.length ≤ 16777216) : Calls Try.prog 29 #[.pointer (some ⟨b, 0, none⟩), .int .i64 keep, .bool torn] w fun e w' => e = .returned (.tuple #[]) ∧ Dev S b (offH h) (L.map (loseF keep torn)) w' ∧ Kept S w w' := by
  have HD := Lib.hid d
  obtain ⟨mb, hb, hm, hbm, hbl, hSb, hSm⟩ := d.f
  obtain ⟨D, hown, hsz, hDD⟩ := hm.own
  have HDk := Lib.hid (show DOk D L from hDD)
  obtain ⟨room, acts, down, left0, keep0, torn0⟩ := h
  obtain rfl : down = false := hd
  have c3 : w.cell? ⟨b, 3, none⟩ = some (.bool false) := block_cell hb 3
  have c1 : w.cell? ⟨b, 1, none⟩ = some (.map (some mb)) := block_cell hb 1
  have Hown := Lib.hid hown
  have Hb := Lib.hid hb
  have Hm := Lib.hid hm
  have Hbl := Lib.hid hbl
  have Hht := Lib.hid ht
  have Hhas := Lib.hid (fun f (hf : f ∈ L) => (show DOk D L from hDD).has d.nm hf (d.n32 f hf))
  have hbm1 := hm.lt
  have hb1 := lt_of_block hb
  clear d hb hm hsz hDD hown hbl ht
  go_enter Try.func29, Try.ntmps29
  go_wp2_with (first | (at_range; refine wpList_range_own _ rfl _ 68 rfl 9 84 key9 Try.underlying68 ptrR mb L.length D rfl Hown.out ?_; intro w0 hrg0 hg0 hs0))
  go_frame
  go_loopg [] (Maps.size D) (fun g wr => ∃ left : Lit → Bool, Hid (wr.ranges Try.prog 9 ptrR mb w.heap.size L.length D left g) ∧ Hid (∀ f ∈ L, Fok wr (if left (keyL f.nm) = true then f else loseF keep torn f)) ∧ Hid (wr.heap[b]? = w.heap[b]?) ∧ Hid (wr.heap[mb]? = w.heap[mb]?) ∧ Hid (Kept S w wr))
  case atStart =>
    have hK0 : Below w.heap.size w w0 := ⟨hg0.os, hg0.tape, hg0.output, hg0.size, fun k hk => hg0.block k hk (by simp)⟩
    exact ⟨_, Lib.hid hrg0, Lib.hid (fun f hf => by rw [if_pos (Hhas.out f hf)]; exact (HD.out.fo f hf).of_blocks (fun k hk => hK0.block k ((HD.out.fo f hf).lt hk))), Lib.hid (hK0.block b hb1), Lib.hid (hK0.block mb hbm1), Lib.hid (Kept.of_below hK0)⟩
  case round =>
    obtain ⟨left, hrg, hfo, heb, hem, hK⟩ := hrel
    go_wp2_with (first | (at_next; refine wpList_next_ranges _ rfl _ rfl 9 key9 ptrR Value.string ptrV invK9 invV9 mb w.heap.size L.length _ _ _ rfl hrg.out ?_ ?_))
    · intro _ hl0
      have hb2 := heb.out.trans Hb.out
      have d3 : wr.cell? ⟨b, 3, none⟩ = some (.bool false) := block_cell hb2 3
      have f3 := block_free hb2 3
      have hb3 := block_set (i := 3) (u := .bool true) hb2
      have e4 : (wr.setCell ⟨b, 3, none⟩ (.bool true)).cell? ⟨b, 4, none⟩ = some (.int .i64 left0) := block_cell hb3 4
      have e5 : (wr.setCell ⟨b, 3, none⟩ (.bool true)).cell? ⟨b, 5, none⟩ = some (.int .i64 keep0) := block_cell hb3 5
      have e6 : (wr.setCell ⟨b, 3, none⟩ (.bool true)).cell? ⟨b, 6, none⟩ = some (.bool torn0) := block_cell hb3 6
      have g4 := block_free hb3 4
      have g5 := block_free hb3 5
      have g6 := block_free hb3 6
      have Hfin := Lib.hid (show Dev S b (offH ⟨room, acts, false, left0, keep0, torn0⟩) (L.map (loseF keep torn)) ((((wr.setCell ⟨b, 3, none⟩ (.bool true)).setCell ⟨b, 4, none⟩ (.int .i64 0)).setCell ⟨b, 5, none⟩ (.int .i64 0)).setCell ⟨b, 6, none⟩ (.bool false)) from by
        have ho : ∀ k, k ≠ b → ((((wr.setCell ⟨b, 3, none⟩ (.bool true)).setCell ⟨b, 4, none⟩ (.int .i64 0)).setCell ⟨b, 5, none⟩ (.int .i64 0)).setCell ⟨b, 6, none⟩ (.bool false)).heap[k]? = wr.heap[k]? := fun k hk => by
          rw [set_other _ _ _ _ _ hk, set_other _ _ _ _ _ hk, set_other _ _ _ _ _ hk, set_other _ _ _ _ _ hk]
        refine HD.out.lose ?_ ?_ ?_
        · intro mb2 hb9
          have e9 := heb.out.trans hb9
          exact block_set (i := 6) (u := .bool false) (block_set (i := 5) (u := .int .i64 0) (block_set (i := 4) (u := .int .i64 0) (block_set (i := 3) (u := .bool true) e9)))
        · intro mb2 _ hb9
          have : mb2 = mb := by
            have h8 := hb9.symm.trans Hb.out
            simp only [hdV, Option.some.injEq, Obj.cells.injEq, Array.mk.injEq, List.cons.injEq, Value.map.injEq] at h8
            exact h8.1.2.1
          subst this
          exact (ho _ (Ne.symm hbm)).trans hem.out
        · intro f hf
          have h7 := hfo.out f hf
          rw [if_neg (by rw [hl0]; decide)] at h7
          exact h7.of_blocks (fun k hk => ho k (fun e => (Hbl.out f hf).1 (by rw [← e, ← loseF_bl (keep := keep) (torn := torn) (HD.out.fo f hf)]; exact hk))))
      have HKf := Lib.hid ((((hK.out.setCell (.inl hSb) 3 (.bool true)).setCell (.inl hSb) 4 (.int .i64 0)).setCell (.inl hSb) 5 (.int .i64 0)).setCell (.inl hSb) 6 (.bool false))
      clear hb2 hb3 hl0
      go_wp2_with fail
      exact bodyPost_end (v := .tuple #[]) (by simp [results, Try.results29]) rfl ⟨rfl, Hfin.out, HKf.out⟩
    · intro x c kl y1 y2 w1 cnt1 hkey hlk hv hat hrg1 hlt hg1 hs1 hen
      obtain ⟨f, hl, rfl, rfl⟩ := HDk.out.step (y := (y1, y2)) hkey hv hat
      obtain ⟨hf, hfn⟩ := look_some hl
      have hE1 : ∀ k, k < w.heap.size → w1.heap[k]? = wr.heap[k]? := fun k hk => hg1.block k (Nat.lt_of_lt_of_le hk hK.out.size) (fun e => by injection e with e; omega)
      have hfw := HD.out.fo f hf
      have hfr := hfo.out f hf
      rw [hfn, if_pos hlk] at hfr
      have hf1 : Fok w1 f := hfr.of_blocks (fun k hk => hE1 k (hfw.lt hk))
      have HL := Lib.hid (lose_any f w1 hf1 (Hbl.out f hf).2.2 keep torn (Hht.out f hf))
      have hen2 : (Instr.entry (.pointer (some ⟨w.heap.size, 0, none⟩))).run Try.prog w1 = .ok (.tuple #[.string x, .pointer (some ⟨f.B, 0, none⟩)]) w1 := hen
      have HR1 := Lib.hid hrg1
      have HE1 := Lib.hid hE1
      have Hg1 := Lib.hid hg1
      have Hfn := Lib.hid hfn
      have Hf := Lib.hid hf
      have Hlk := Lib.hid hlk
      clear hrg1 hrg hat hkey hv hlk hg1 hen hfr hf1 hE1 hl hfn hf
      go_wp2_with fail
      refine HL.out.mono ?_
      rintro e1 w2 ⟨rfl, f', hf'⟩
      obtain rfl := hf'.eq
      have hsz1 := hs1
      have hfl : ∀ k ∈ f.bl, k < w.heap.size := fun k hk => hfw.lt hk
      have hno : ∀ k, k < w1.heap.size → k ∉ f.bl → w2.heap[k]? = w1.heap[k]? := hf'.block
      have hR2 := Lib.hid (ranges_of HR1.out (hno mb (by have := HR1.out.owns.lt; omega) (Hbl.out f Hf.out).2.1) (hno w.heap.size (by have := HR1.out.lt; omega) (fun hk => by have := hfl _ hk; omega)))
      have hK2 := Lib.hid (show Kept S w w2 from ⟨hf'.os.trans (Hg1.out.os.trans hK.out.os), hf'.tape.trans (Hg1.out.tape.trans hK.out.tape), hf'.output.trans (Hg1.out.output.trans hK.out.output), by have h1 := hf'.size; have h2 := hK.out.size; omega, fun k hk hS => (hno k (by have := hK.out.size; omega) (fun hx => hS (HD.out.ss f Hf.out k hx))).trans ((HE1.out k hk).trans (hK.out.block k hk hS))⟩)
      have hb2 := Lib.hid ((hno b (by have := hK.out.size; omega) (Hbl.out f Hf.out).1).trans ((HE1.out b hb1).trans heb.out))
      have hm2 := Lib.hid ((hno mb (by have := hK.out.size; omega) (Hbl.out f Hf.out).2.1).trans ((HE1.out mb hbm1).trans hem.out))
      have hfo2 := Lib.hid (show ∀ g ∈ L, Fok w2 (if strike left (keyL x) (keyL g.nm) = true then g else loseF keep torn g) from fun g hg => by
        by_cases hgx : g.nm = x
        · have : g = f := by
            have h1 := look_mem HD.out.nm hg
            have h2 := look_mem HD.out.nm Hf.out
            rw [hgx, ← Hfn.out, h2] at h1
            injection h1 with h1; exact h1.symm
          subst this
          rw [hgx, strike_self, if_neg (by decide)]
          exact hf'.ok
        · rw [strike_other hgx]
          have h1 := hfo.out g hg
          have hgw := HD.out.fo g hg
          have hne : g.nm ≠ f.nm := fun e => hgx (e.trans Hfn.out)
          have hgb : ∀ k ∈ g.bl, w2.heap[k]? = wr.heap[k]? := fun k hk => (hno k (by have := hgw.lt hk; have := hK.out.size; omega) (HD.out.ff g hg f Hf.out hne k hk)).trans (HE1.out k (hgw.lt hk))
          split at h1
          · rename_i hx; rw [if_pos hx]; exact h1.of_blocks hgb
          · rename_i hx; rw [if_neg hx]; exact h1.of_blocks (by rw [loseF_bl hgw]; exact hgb))
      clear hf' hno hfl
      go_wp2_with fail
      go_roundg cnt1
      case measure => exact hlt
      case rel => exact ⟨strike left (keyL x), hR2, hfo2, hb2, hm2, hK2⟩
end Go.Proofs.Ytbdlmdmbaajcmaa
namespace Go.Proofs.Ytbdlmdmbaajcmaa
set_option linter.unusedVariables false
set_option linter.unusedSimpArgs false
open Go.ChangeShapes Go.WideShapes Go.ChangeAt Go.RowKit

def doesB (stays keep : Int) : Bool := decide (stays = 0) || (decide (stays = 1) && decide (0 < keep))
/-- What an act leads to: E is what the doing leads to. -/
structure ActR (S : Nat → Prop) (b : Nat) (h : Hd) (L : List Fl) (stays : Int) (E : List Fl → Prop) (w : World) (e : Ending) (w' : World) : Prop where
  r : (h.left ≠ 1 ∧ e = .returned (.int .i64 0) ∧ ∃ L2, E L2 ∧ Dev (Gr S w w') b ⟨h.room, h.acts + 1, false, max (h.left - 1) 0, h.keep, h.torn⟩ L2 w') ∨
    (h.left = 1 ∧ e = .returned (.int .i64 7) ∧ ∃ L2, (if doesB stays h.keep = true then E L2 else L2 = L) ∧ Dev (Gr S w w') b ⟨h.room, h.acts + 1, true, 0, 0, false⟩ (L2.map (loseF h.keep h.torn)) w')
  k : Kept S w w'
/-- What the doing does. -/
def Does (S : Nat → Prop) (b : Nat) (L : List Fl) (E : List Fl → Prop) (fn : FuncId) (caps : Array Value) (w : World) : Prop :=
  ∀ w1 h1, Dev S b h1 L w1 → Kept S w w1 → Calls Try.prog fn caps w1 fun e w2 => e = .returned (.tuple #[]) ∧ ∃ L2, E L2 ∧ Dev (Gr S w1 w2) b h1 L2 w2 ∧ Kept S w1 w2
set_option maxRecDepth 100000 in
set_option maxHeartbeats 4000000 in
theorem act_any {S : Nat → Prop} {b : Nat} {h : Hd} {L : List Fl} {w : World} (d : Dev S b h L w) (hdn : h.down = false) (hl : 0 ≤ h.left ∧ h.left ≤ 9223372036854775807) (ha : 0 ≤ h.acts ∧ h.acts ≤ 1099511627776) (stays : Int) (E : List Fl → Prop) (fn : FuncId) (caps : Array Value)
    (hcf : ∀ w1, (callFunc fn caps).run Try.prog w1 = .ok (.enter fn caps) w1) (hdo : Does S b L E fn caps w) (hE : ∀ L2, E L2 → ∀ f ∈ L2, f.d.length ≤ 16777216) (hL : ∀ f ∈ L, f.d.length ≤ 16777216) :
    Calls Try.prog 55 #[.pointer (some ⟨b, 0, none⟩), .int .i64 stays, .func (.func fn) #[] caps] w (ActR S b h L stays E w) := by
  have HD := Lib.hid d
  have Hdo := Lib.hid hdo
  have HE := Lib.hid hE
  have HL := Lib.hid hL
  obtain ⟨mb, hb, _, _, _, hSb, _⟩ := d.f
  obtain ⟨room, acts, down, left, keep, torn⟩ := h
  obtain rfl : down = false := hdn
  have hl0 : 0 ≤ left := hl.1
  have hl1 : left ≤ 9223372036854775807 := hl.2
  have ha0 : 0 ≤ acts := ha.1
  have ha1 : acts ≤ 1099511627776 := ha.2
  have c2 : w.cell? ⟨b, 2, none⟩ = some (.int .i64 acts) := block_cell hb 2
  have f2 := block_free hb 2
  have hb2 := block_set (i := 2) (u := .int .i64 (acts + 1)) hb
  have c4 : (w.setCell ⟨b, 2, none⟩ (.int .i64 (acts + 1))).cell? ⟨b, 4, none⟩ = some (.int .i64 left) := block_cell hb2 4
  have f4 := block_free hb2 4
  clear d hdo hE hL hl ha
  rcases (by omega : left = 0 ∨ left = 1 ∨ 2 ≤ left) with hx | hx | hx
  · subst hx
    have HD1 := Lib.hid (show Dev S b ⟨room, acts + 1, false, 0, keep, torn⟩ L ((w.setCell ⟨b, 2, none⟩ (.int .i64 (acts + 1))).setCell ⟨b, 4, none⟩ (.int .i64 (0))) from HD.out.setH (fun mb2 hb9 => block_set (i := 4) (u := .int .i64 (0)) (block_set (i := 2) (u := .int .i64 (acts + 1)) hb9)) (fun k _ hk => by rw [set_other _ _ _ _ _ hk, set_other _ _ _ _ _ hk]))
    have HK1 := Lib.hid (((Kept.refl S w).setCell (.inl hSb) 2 (.int .i64 (acts + 1))).setCell (.inl hSb) 4 (.int .i64 (0)))
    have HZ1 : Hid (((w.setCell ⟨b, 2, none⟩ (.int .i64 (acts + 1))).setCell ⟨b, 4, none⟩ (.int .i64 (0))).heap.size = w.heap.size) := Lib.hid (by simp [World.setCell])
    have HC := Lib.hid (Hdo.out _ _ HD1.out HK1.out)
    clear hb hb2
    go_enter Try.func55, Try.ntmps55
    go_wp2_with fail
    refine HC.out.mono ?_
    rintro e1 w2 ⟨rfl, L2, hE2, hD2, hK2⟩
    have HR := Lib.hid (show ActR S b ⟨room, acts, false, 0, keep, torn⟩ L stays E w (.returned (.int .i64 0)) w2 from
      ⟨.inl ⟨by show (0 : Int) ≠ 1; omega, rfl, L2, hE2, by
        have hm : max ((0 : Int) - 1) 0 = 0 := by omega
        show Dev (Gr S w w2) b ⟨room, acts + 1, false, max ((0 : Int) - 1) 0, keep, torn⟩ L2 w2
        rw [hm]
        exact hD2.mono (fun k hk => hk.imp id (fun hk => by rw [HZ1.out] at hk; exact hk))⟩, HK1.out.trans' hK2⟩)
    clear hE2 hD2 hK2
    go_wp2_with fail
    go_ret
    exact HR.out
  · subst hx
    have HD1 := Lib.hid (show Dev S b ⟨room, acts + 1, false, 1, keep, torn⟩ L (w.setCell ⟨b, 2, none⟩ (.int .i64 (acts + 1))) from HD.out.setH (fun mb2 hb9 => block_set (i := 2) (u := .int .i64 (acts + 1)) hb9) (fun k _ hk => by rw [set_other _ _ _ _ _ hk]))
    have HK1 := Lib.hid ((Kept.refl S w).setCell (.inl hSb) 2 (.int .i64 (acts + 1)))
    have HZ1 : Hid ((w.setCell ⟨b, 2, none⟩ (.int .i64 (acts + 1))).heap.size = w.heap.size) := Lib.hid (by simp [World.setCell])
    have e5 : (w.setCell ⟨b, 2, none⟩ (.int .i64 (acts + 1))).cell? ⟨b, 5, none⟩ = some (.int .i64 keep) := block_cell hb2 5
    have e6 : (w.setCell ⟨b, 2, none⟩ (.int .i64 (acts + 1))).cell? ⟨b, 6, none⟩ = some (.bool torn) := block_cell hb2 6
    have Hb2 := Lib.hid hb2
    clear hb hb2 f4
    go_enter Try.func55, Try.ntmps55
    go_wp2_with fail
    go_quiet (fail)
    have HDn := Lib.hid (HD1.out.below (below_drewN (Below.refl _ _) nq))
    have HKn := Lib.hid (HK1.out.trans' (Kept.of_below (S := S) (below_drewN (Below.refl _ _) nq)))
    have HZn : Hid (((w.setCell ⟨b, 2, none⟩ (.int .i64 (acts + 1))).drewN nq).heap.size = w.heap.size) := Lib.hid HZ1.out
    generalize (w.setCell ⟨b, 2, none⟩ (.int .i64 (acts + 1))).drewN nq = w1 at *
    clear c2 f2 c4 e5 e6 Hb2 HD1 HK1 HZ1
    by_cases s0 : stays = 0
    · subst s0
      have HC := Lib.hid (Hdo.out _ _ HDn.out HKn.out)
      go_wp2_with fail
      refine HC.out.mono ?_
      rintro e1 w2 ⟨rfl, L2, hE2, hD2, hK2⟩
      have HE2 := Lib.hid hE2
      have HD2 := Lib.hid hD2
      have HK2 := Lib.hid hK2
      clear hE2 hD2 hK2
      have HO := Lib.hid (off_any HD2.out rfl keep torn (HE.out L2 HE2.out))
      go_wp2_with fail
      refine HO.out.mono ?_
      rintro e3 w3 ⟨rfl, hD3, hK3⟩
      have HR := Lib.hid (show ActR S b ⟨room, acts, false, 1, keep, torn⟩ L 0 E w (.returned (.int .i64 7)) w3 from
        ⟨.inr ⟨rfl, rfl, L2, by rw [show doesB 0 keep = true from by unfold doesB; simp, if_pos rfl]; exact HE2.out, by
          have hz2 := HK2.out.size
          have hz3 := hK3.size
          have hzn := HZn.out
          exact hD3.mono (fun k hk => by
            rcases hk with hk | hk
            · exact .inl hk
            · exact .inr ⟨by omega, by omega⟩)⟩, HKn.out.trans' (HK2.out.trans hK3)⟩)
      clear hD3 hK3
      go_wp2_with fail
      go_ret
      exact HR.out
    by_cases s1 : stays = 1
    · subst s1
      by_cases hk : 0 < keep
      · have hkd : doesB 1 keep = true := by unfold doesB; simp [hk]
        have Hkd := Lib.hid hkd
        clear hkd
        have HC := Lib.hid (Hdo.out _ _ HDn.out HKn.out)
        go_wp2_with fail
        refine HC.out.mono ?_
        rintro e1 w2 ⟨rfl, L2, hE2, hD2, hK2⟩
        have HE2 := Lib.hid hE2
        have HD2 := Lib.hid hD2
        have HK2 := Lib.hid hK2
        clear hE2 hD2 hK2
        have HO := Lib.hid (off_any HD2.out rfl keep torn (HE.out L2 HE2.out))
        go_wp2_with fail
        refine HO.out.mono ?_
        rintro e3 w3 ⟨rfl, hD3, hK3⟩
        have HR := Lib.hid (show ActR S b ⟨room, acts, false, 1, keep, torn⟩ L 1 E w (.returned (.int .i64 7)) w3 from
          ⟨.inr ⟨rfl, rfl, L2, by rw [show doesB 1 keep = true from Hkd.out, if_pos rfl]; exact HE2.out, by
            have hz2 := HK2.out.size
            have hz3 := hK3.size
            have hzn := HZn.out
            exact hD3.mono (fun k hk => by
              rcases hk with hk | hk
              · exact .inl hk
              · exact .inr ⟨by omega, by omega⟩)⟩, HKn.out.trans' (HK2.out.trans hK3)⟩)
        clear hD3 hK3
        go_wp2_with fail
        go_ret
        exact HR.out
      · have hkd : doesB 1 keep = false := by unfold doesB; simp [hk]
        have Hkd := Lib.hid hkd
        clear hkd
        have HO := Lib.hid (off_any HDn.out rfl keep torn HL.out)
        go_wp2_with fail
        refine HO.out.mono ?_
        rintro e3 w3 ⟨rfl, hD3, hK3⟩
        have HR := Lib.hid (show ActR S b ⟨room, acts, false, 1, keep, torn⟩ L 1 E w (.returned (.int .i64 7)) w3 from
          ⟨.inr ⟨rfl, rfl, L, by rw [show doesB 1 keep = false from Hkd.out, if_neg (by decide)], hD3.mono (fun k hk => .inl hk)⟩, HKn.out.trans' hK3⟩)
        clear hD3 hK3
        go_wp2_with fail
        go_ret
        exact HR.out
    · have hkd : doesB stays keep = false := by unfold doesB; simp [s0, s1]
      have Hkd := Lib.hid hkd
      have u0 : (stays == 0) = false := beq_eq_false_iff_ne.2 s0
      have u1 : (stays == 1) = false := beq_eq_false_iff_ne.2 s1
      clear hkd
      have HO := Lib.hid (off_any HDn.out rfl keep torn HL.out)
      go_wp2_with fail
      refine HO.out.mono ?_
      rintro e3 w3 ⟨rfl, hD3, hK3⟩
      have HR := Lib.hid (show ActR S b ⟨room, acts, false, 1, keep, torn⟩ L stays E w (.returned (.int .i64 7)) w3 from
        ⟨.inr ⟨rfl, rfl, L, by rw [show doesB stays keep = false from Hkd.out, if_neg (by decide)], hD3.mono (fun k hk => .inl hk)⟩, HKn.out.trans' hK3⟩)
      clear hD3 hK3
      go_wp2_with fail
      go_ret
      exact HR.out
  · have hxn : (left == 1) = false := beq_eq_false_iff_ne.2 (by omega)
    have hx1 : ¬ left - 1 ≤ 0 := by omega
    have hx2 : 0 ≤ left - 1 := by omega
    have HD1 := Lib.hid (show Dev S b ⟨room, acts + 1, false, left - 1, keep, torn⟩ L ((w.setCell ⟨b, 2, none⟩ (.int .i64 (acts + 1))).setCell ⟨b, 4, none⟩ (.int .i64 (left - 1))) from HD.out.setH (fun mb2 hb9 => block_set (i := 4) (u := .int .i64 (left - 1)) (block_set (i := 2) (u := .int .i64 (acts + 1)) hb9)) (fun k _ hk => by rw [set_other _ _ _ _ _ hk, set_other _ _ _ _ _ hk]))
    have HK1 := Lib.hid (((Kept.refl S w).setCell (.inl hSb) 2 (.int .i64 (acts + 1))).setCell (.inl hSb) 4 (.int .i64 (left - 1)))
    have HZ1 : Hid (((w.setCell ⟨b, 2, none⟩ (.int .i64 (acts + 1))).setCell ⟨b, 4, none⟩ (.int .i64 (left - 1))).heap.size = w.heap.size) := Lib.hid (by simp [World.setCell])
    have HC := Lib.hid (Hdo.out _ _ HD1.out HK1.out)
    clear hb hb2
    go_enter Try.func55, Try.ntmps55
    go_wp2_with fail
    refine HC.out.mono ?_
    rintro e1 w2 ⟨rfl, L2, hE2, hD2, hK2⟩
    have HR := Lib.hid (show ActR S b ⟨room, acts, false, left, keep, torn⟩ L stays E w (.returned (.int .i64 0)) w2 from
      ⟨.inl ⟨by show left ≠ 1; omega, rfl, L2, hE2, by
        have hm : max (left - 1) 0 = left - 1 := by omega
        show Dev (Gr S w w2) b ⟨room, acts + 1, false, max (left - 1) 0, keep, torn⟩ L2 w2
        rw [hm]
        exact hD2.mono (fun k hk => hk.imp id (fun hk => by rw [HZ1.out] at hk; exact hk))⟩, HK1.out.trans' hK2⟩)
    clear hE2 hD2 hK2
    go_wp2_with fail
    go_ret
    exact HR.out
end Go.Proofs.Ytbdlmdmbaajcmaa
namespace Go.Proofs.Ytbdlmdmbaajcmaa
set_option linter.unusedVariables false
set_option linter.unusedSimpArgs false
open Go.ChangeShapes Go.WideShapes Go.ChangeAt Go.RowKit

theorem ownsMap_size {w : World} {R : Value → Option (DataW Unit × List MemPlace)} {mb n : Nat} {D : DataW Unit} (h : w.ownsMap Try.prog 9 R mb n D) : w.ownsMap Try.prog 9 R mb (Maps.size D) D := by
  obtain ⟨es, clock, hb, F, hs, hD⟩ := h
  refine ⟨es, clock, hb, F, ?_, hD⟩
  rw [hD]
  simp [Maps.size, length_sorted]
theorem keyL_key (x : ByteArray) : WideAt.IsKeyLit (keyL x) := trivial
theorem DOk.has_iff {D : DataW Unit} {L : List Fl} (h : DOk D L) {x : ByteArray} (hx : x.size ≤ maxLen) : Maps.has D (keyL x) = (look L x).isSome := by
  cases hl : look L x with
  | none => exact Maps.has_false_of_atKey (fun z => by have := h x hx z; rw [hl] at this; exact this)
  | some f => exact Maps.has_true_of_atKey (y := ptrD (some f.B)) (fun z => by have := h x hx z; rw [hl] at this; exact this)
theorem drp_len {L : List Fl} {x : ByteArray} (hn : (L.map Fl.nm).Nodup) : (drp L x).length + (if (look L x).isSome = true then 1 else 0) = L.length := by
  induction L with
  | nil => rfl
  | cons f L ih =>
    rw [List.map_cons, List.nodup_cons] at hn
    have ih := ih hn.2
    unfold drp look at *
    rw [List.filter_cons, List.find?_cons]
    by_cases hf : f.nm = x
    · rw [if_neg (by simp [hf]), decide_eq_true hf]
      have hno : List.find? (fun f => decide (f.nm = x)) L = none := List.find?_eq_none.2 (fun g hg => by
        simp only [decide_eq_true_eq]
        intro e
        exact hn.1 (hf ▸ e ▸ List.mem_map_of_mem hg))
      rw [hno] at ih
      simp at ih ⊢
      exact ih
    · rw [if_pos (by simp [hf]), decide_eq_false hf, List.length_cons, List.length_cons]
      show _ + 1 + (if (List.find? (fun f => decide (f.nm = x)) L).isSome = true then 1 else 0) = _
      omega
theorem upd_length {L : List Fl} {f' : Fl} : (upd L f').length = if (look L f'.nm).isSome = true then L.length else L.length + 1 := by
  unfold upd
  split <;> simp
theorem MapOk.del {w w' : World} {mb n m : Nat} {L : List Fl} {D : DataW Unit} {x : ByteArray} (h0 : w.ownsMap Try.prog 9 ptrR mb m D) (hD : DOk D L) (hs : Maps.size D = L.length) (hn : (L.map Fl.nm).Nodup) (hx : x.size ≤ maxLen) (h : w'.ownsMap Try.prog 9 ptrR mb n (D.del (keyL x))) : MapOk mb (drp L x) w' := by
  have hsz : Maps.size (D.del (keyL x)) = (drp L x).length := by
    have h1 := Maps.size_del (k := keyL x) (h0.tidy key9)
    have h2 := drp_len (x := x) hn
    rw [hD.has_iff hx] at h1
    omega
  refine ⟨_, by rw [← hsz]; exact ownsMap_size h, hsz, fun y hy z => ?_⟩
  rw [look_drp]
  by_cases hyx : y = x
  · subst hyx
    rw [if_pos rfl]
    exact Maps.atKey_del_same z
  · rw [if_neg hyx]
    exact (Maps.atKey_del_other (keyL_ne hyx) z).trans (hD y hy z)
theorem MapOk.put {w w' : World} {mb n m : Nat} {L : List Fl} {D : DataW Unit} {f' : Fl} (h0 : w.ownsMap Try.prog 9 ptrR mb m D) (hD : DOk D L) (hs : Maps.size D = L.length) (hx : f'.nm.size ≤ maxLen) (h : w'.ownsMap Try.prog 9 ptrR mb n (D.put (keyL f'.nm) (ptrD (some f'.B)))) : MapOk mb (upd L f') w' := by
  have hsz : Maps.size (D.put (keyL f'.nm) (ptrD (some f'.B))) = (upd L f').length := by
    rw [Maps.size_put (h0.tidy key9), hD.has_iff hx, upd_length, hs]
  refine ⟨_, by rw [← hsz]; exact ownsMap_size h, hsz, fun y hy z => ?_⟩
  rw [look_upd]
  by_cases hyx : f'.nm = y
  · subst hyx
    rw [if_pos rfl]
    exact Maps.atKey_put_same h0.isMap (keyL_key _) _ z
  · rw [if_neg hyx]
    exact (Maps.atKey_put_other (keyL_ne (Ne.symm hyx)) _ z).trans (hD y hy z)
/-- A file is taken away. -/
theorem Dev.drop {S : Nat → Prop} {b : Nat} {h : Hd} {L : List Fl} {w w' : World} {x : ByteArray} (d : Dev S b h L w) (hm : ∀ mb, w.heap[b]? = some (.cells (hdV h mb) 72 (0, 0)) → MapOk mb (drp L x) w' ∧ ∀ k, k < w.heap.size → k ≠ mb → w'.heap[k]? = w.heap[k]?) : Dev S b h (drp L x) w' := by
  obtain ⟨mb, h1, h2, h3, h4, h5, h6⟩ := d.f
  obtain ⟨m1, m2⟩ := hm mb h1
  have hsub : ∀ g ∈ drp L x, g ∈ L := fun g hg => (drp_mem.1 hg).1
  exact ⟨⟨mb, (m2 b (lt_of_block h1) h3).trans h1, m1, h3, fun g hg => h4 g (hsub g hg), h5, h6⟩,
    fun g hg => (d.fo g (hsub g hg)).of_blocks (fun k hk => m2 k ((d.fo g (hsub g hg)).lt hk) (fun e => (h4 g (hsub g hg)).2.1 (e ▸ hk))), drp_names d.nm, fun g hg => d.n32 g (hsub g hg),
    fun f hf g hg => d.ff f (hsub f hf) g (hsub g hg), fun f hf => d.ss f (hsub f hf)⟩
/-- A file is put: in blocks that no other one has. -/
theorem Dev.put {S : Nat → Prop} {b : Nat} {h : Hd} {L : List Fl} {w w' : World} {f' : Fl} (d : Dev S b h L w) (h32 : f'.nm.size ≤ 32) (hf : Fok w' f')
    (hm : ∀ mb, w.heap[b]? = some (.cells (hdV h mb) 72 (0, 0)) → MapOk mb (upd L f') w' ∧ (∀ k, k < w.heap.size → k ≠ mb → w'.heap[k]? = w.heap[k]?) ∧ b ∉ f'.bl ∧ mb ∉ f'.bl)
    (hown : f'.v.ownBlock ≠ some f'.B) (hdis : ∀ g ∈ L, ∀ k ∈ f'.bl, k ∉ g.bl) (hS : ∀ k ∈ f'.bl, S k) : Dev S b h (upd L f') w' := by
  obtain ⟨mb, h1, h2, h3, h4, h5, h6⟩ := d.f
  obtain ⟨m1, m2, m3, m4⟩ := hm mb h1
  refine ⟨⟨mb, (m2 b (lt_of_block h1) h3).trans h1, m1, h3, fun g hg => ?_, h5, h6⟩, fun g hg => ?_, upd_names d.nm, fun g hg => ?_, fun f hf2 g hg hne k hk => ?_, fun g hg k hk => ?_⟩
  · rcases upd_mem hg with rfl | ⟨hg, _⟩
    · exact ⟨m3, m4, hown⟩
    · exact h4 g hg
  · rcases upd_mem hg with rfl | ⟨hg, _⟩
    · exact hf
    · exact (d.fo g hg).of_blocks (fun k hk => m2 k ((d.fo g hg).lt hk) (fun e => (h4 g hg).2.1 (e ▸ hk)))
  · rcases upd_mem hg with rfl | ⟨hg, _⟩
    · exact h32
    · exact d.n32 g hg
  · rcases upd_mem hf2 with e1 | ⟨hf2, n1⟩ <;> rcases upd_mem hg with e2 | ⟨hg, n2⟩
    · exact absurd (by rw [e1, e2]) hne
    · rw [e1] at hk; exact hdis g hg k hk
    · rw [e2]; exact fun hk2 => hdis f hf2 k hk2 hk
    · exact d.ff f hf2 g hg hne k hk
  · rcases upd_mem hg with rfl | ⟨hg, _⟩
    · exact hS k hk
    · exact d.ss g hg k hk
end Go.Proofs.Ytbdlmdmbaajcmaa
