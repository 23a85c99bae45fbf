/- Walks: what a file loses when the power goes. -/
import Derived.Test.YtfmcemedaehcoaaWb
import Derived.Test.YtfmcemedaehcoaaKr
namespace Go.Proofs.Ytfmcemedaehcoaa
set_option linter.unusedVariables false
set_option linter.unusedSimpArgs false
open Go.ChangeShapes Go.WideShapes Go.ChangeAt Go.RowKit

theorem wpQuiet_load_at {P : Program} {C : World → Prop} {ops : Array Oper} {rest : List Oper} {o : Oper} {a : Act} {Q : Act → Prop} (hw : Region.wanted o (yielded ops a.tmps) = true) (ty : TypeId) (x : Operand) (ho : o.op = .load ty x)
    (p : Addr) (hx : a.eval x = .pointer (some p)) (v : Value) (hr : ∀ w, C w → (loadVar ty p).run P w = .ok v w)
    (h : wpQuiet P ops C Q rest (a.put o.dst v)) : wpQuiet P ops C Q (o :: rest) a := by
  refine Go.BigFrame.wpQuiet_want hw fun K hK => ⟨v, fun w hw => ?_, hK _ h⟩
  unfold Oper.quietAt execOp
  simp only [ho, hx, Instr.loadAt, Instr.sureAddr, Sem.run_bind, Sem.run_pure, Result.andThen_ok, hr w hw]
  exact ⟨rfl, rfl⟩
theorem wpQuiet_upto_at {P : Program} {C : World → Prop} {ops : Array Oper} {rest : List Oper} {o : Oper} {a : Act} {Q : Act → Prop} (hw : Region.wanted o (yielded ops a.tmps) = true) (ty : TypeId) (x hi : Operand) (ho : o.op = .slice ty x none (some hi) none)
    (vx vh v : Value) (hx : a.eval x = vx) (hh : a.eval hi = vh) (hr : ∀ w, (Instr.sliceAt ty vx none (some vh) none).run P w = .ok v w)
    (h : wpQuiet P ops C Q rest (a.put o.dst v)) : wpQuiet P ops C Q (o :: rest) a := by
  refine Go.BigFrame.wpQuiet_want hw fun K hK => ⟨v, fun w hw => ?_, hK _ h⟩
  unfold Oper.quietAt execOp
  simp only [ho, Option.map, hx, hh, Sem.run_bind, Sem.run_pure, Result.andThen_ok, hr w]
  exact ⟨rfl, rfl⟩
theorem upto_run (p : Option Addr) (len cap n : Nat) (h : n ≤ cap) (w1 : World) : (Instr.sliceAt 29 (.slice p len cap) none (some (.int .i64 n)) none).run Try.prog w1 = .ok (.slice (if cap = 0 then p else p.map (·.add 0)) n cap) w1 := by
  have h2 : (n : Int) ≤ cap := by omega
  have he : Try.prog.elem 29 = 5 := by kernel_rfl
  have hz : (sizeOf 5).run Try.prog w1 = .ok 1 w1 := by kernel_rfl
  rw [run_sliceAt_slice w1 29 _ _ _ _ (by rw [he]; exact Try.underlying29), run_slice_h w1 29 _ _ _ (by rw [he]; exact Try.underlying29) .i64 _ (by omega) h2, he, hz]
  simp [Result.andThen, sliced]
theorem LF_bV (l : List UInt8) : LF bV l = l.map (fun b => Value.int .u8 b.toNat) := by
  unfold LF bV
  induction l with
  | nil => rfl
  | cons a l ih => simp [List.flatMap_cons, ih]
theorem LF_take (l : List UInt8) (n : Nat) : LF bV (l.take n) = (LF bV l).take n := by rw [LF_bV, LF_bV, List.map_take]

def uptoV : Value → Nat → Value
  | .slice p _ c, n => .slice p n c
  | v, _ => v
theorem add_zero' (x : Addr) : x.add 0 = x := by unfold Addr.add; split <;> simp_all
/-- A row's first bytes. -/
theorem own_upto {w : World} {v : Value} {l : List UInt8} {n : Nat} (ho : w.ownsRow 0 5 1 v l.length (LF bV l)) (hn : n ≤ l.length) :
    ∃ p c, (∀ w1, (Instr.sliceAt 29 v none (some (.int .i64 n)) none).run Try.prog w1 = .ok (.slice p n c) w1) ∧ w.ownsRow 0 5 1 (.slice p n c) n (LF bV (l.take n)) ∧ (∀ g, (Value.slice p n c).ownBlock = some g → v.ownBlock = some g) ∧ ∀ k, uptoV v k = .slice p k c := by
  rcases ho.2 with ⟨rfl, h0⟩ | ⟨g, cap, cur, rfl, hg, hh, hc, hm, hs, ht⟩
  · obtain rfl : n = 0 := by omega
    refine ⟨none, 0, fun w1 => ?_, ⟨by simp [LF], .inl ⟨rfl, rfl⟩⟩, (fun g h => by cases h), fun _ => rfl⟩
    exact upto_run none 0 0 0 (Nat.le_refl _) w1
  · have hp : (if cap = 0 then some ⟨g, 0, none⟩ else (some (⟨g, 0, none⟩ : Addr)).map (·.add 0)) = some ⟨g, 0, none⟩ := by
      split
      · rfl
      · simp [add_zero']
    refine ⟨some ⟨g, 0, none⟩, cap, fun w1 => by rw [upto_run _ _ _ _ (by omega), hp], ⟨?_, .inr ⟨g, cap, cur, rfl, hg, hh, by omega, hm, hs, ?_⟩⟩, (fun g' h => h), fun _ => rfl⟩
    · rw [LF_bV, List.length_map, List.length_take]; omega
    · rw [LF_take, ← ht, List.take_take]; congr 1; omega
/-- How many bytes that aren't safe are kept. -/
def keptN (keep : Int) (d : List UInt8) (s : Nat) : Nat := min (max keep 0).toNat (d.length - s)
def loseD (keep : Int) (torn : Bool) (d : List UInt8) (s : Nat) : List UInt8 :=
  if 0 < keptN keep d s ∧ torn = true then (d.take (s + keptN keep d s)).set (s + keptN keep d s - 1) (d.getD (s + keptN keep d s - 1) 0 ^^^ 255) else d.take (s + keptN keep d s)
theorem keptN_le (keep : Int) (d : List UInt8) (s : Nat) : keptN keep d s ≤ d.length - s := Nat.min_le_right _ _
theorem loseD_len {keep : Int} {torn : Bool} {d : List UInt8} {s : Nat} (h : s ≤ d.length) : (loseD keep torn d s).length = s + keptN keep d s := by
  have := keptN_le keep d s
  unfold loseD
  split
  · rw [List.length_set, List.length_take]; omega
  · rw [List.length_take]; omega
theorem xor_fin : ∀ n : Fin 256, bits BinOp.xor IntKind.u8 ((n.val : Nat) : Int) 255 = (((UInt8.ofNat n.val) ^^^ 255).toNat : Int) := by decide +kernel
theorem xor_byte (x : UInt8) : bits BinOp.xor IntKind.u8 ((x.toNat : Nat) : Int) 255 = ((x ^^^ 255).toNat : Int) := by
  have h := xor_fin ⟨x.toNat, x.toNat_lt⟩
  rw [h, UInt8.ofNat_toNat]
/-- What lose leaves of a file. -/
structure Lost (keep : Int) (torn : Bool) (f : Fl) (w w' : World) (f' : Fl) : Prop where
  nm : f'.nm = f.nm
  B : f'.B = f.B
  d : f'.d = loseD keep torn f.d f.s
  s : f'.s = f'.d.length
  v : f'.v = uptoV f.v f'.s
  ok : Fok w' f'
  own : ∀ g, f'.v.ownBlock = some g → f.v.ownBlock = some g
  size : w.heap.size ≤ w'.heap.size
  block : ∀ k, k < w.heap.size → k ∉ f.bl → w'.heap[k]? = w.heap[k]?
  os : w'.os = w.os
  tape : w'.tape = w.tape
  output : w'.output = w.output
def loseF (keep : Int) (torn : Bool) (f : Fl) : Fl := ⟨f.nm, f.B, uptoV f.v (loseD keep torn f.d f.s).length, loseD keep torn f.d f.s, (loseD keep torn f.d f.s).length⟩
theorem Lost.eq {keep : Int} {torn : Bool} {f f' : Fl} {w w' : World} (h : Lost keep torn f w w' f') : f' = loseF keep torn f := by
  obtain ⟨nm, B, v, d, s⟩ := f'
  have h1 : nm = f.nm := h.nm
  have h2 : B = f.B := h.B
  have h3 : d = loseD keep torn f.d f.s := h.d
  have h4 : s = d.length := h.s
  have h5 : v = uptoV f.v s := h.v
  subst h1 h2 h3 h4 h5
  rfl

theorem own_of {w w' : World} {v : Value} {n : Nat} {xs : List Value} (h : w.ownsRow 0 5 1 v n xs) (e : ∀ g, v.ownBlock = some g → w'.heap[g]? = w.heap[g]?) : w'.ownsRow 0 5 1 v n xs := by
  refine ⟨h.1, ?_⟩
  rcases h.2 with h1 | ⟨g, cap, cur, hv, hb, hh, rest⟩
  · exact .inl h1
  · exact .inr ⟨g, cap, cur, hv, hb, (e g (by rw [hv]; rfl)).trans hh, rest⟩
theorem own_cell {w : World} {g c n : Nat} {l : List UInt8} (h : w.ownsRow 0 5 1 (.slice (some ⟨g, 0, none⟩) n c) l.length (LF bV l)) (hn : n = l.length) {j : Nat} (hj : j < l.length) : w.cell? ⟨g, j, none⟩ = some (.int .u8 (l.getD j 0).toNat) ∧ w.frozen? ⟨g, j, none⟩ = false := by
  rcases h.2 with ⟨h1, _⟩ | ⟨g', cap, cur, hv, hb, hh, hc, hm, hs, ht⟩
  · cases h1
  · injection hv with e1 e2 e3
    injection e1 with e1
    injection e1 with e1 _
    subst e1
    rw [block_cell hh, block_free hh]
    refine ⟨?_, rfl⟩
    have h2 : (cur.toList.take (l.length * 1))[j]? = some (.int .u8 (l.getD j 0).toNat) := by
      rw [ht, LF_bV, List.getElem?_map, List.getElem?_eq_getElem hj]
      simp [List.getD_eq_getElem?_getD, List.getElem?_eq_getElem hj]
    rw [List.getElem?_take_of_lt (by omega), Array.getElem?_toList] at h2
    exact h2
theorem own_set {w : World} {g c n : Nat} {l : List UInt8} (h : w.ownsRow 0 5 1 (.slice (some ⟨g, 0, none⟩) n c) l.length (LF bV l)) (j : Nat) (y : UInt8) :
    (w.setCell ⟨g, j, none⟩ (.int .u8 y.toNat)).ownsRow 0 5 1 (.slice (some ⟨g, 0, none⟩) n c) (l.set j y).length (LF bV (l.set j y)) := by
  rcases h.2 with ⟨h1, _⟩ | ⟨g', cap, cur, hv, hb, hh, hc, hm, hs, ht⟩
  · cases h1
  · have hv2 := hv
    injection hv with e1 e2 e3
    injection e1 with e1
    injection e1 with e1 _
    subst e1
    refine ⟨by rw [LF_bV, List.length_map, Nat.mul_one], .inr ⟨g, cap, cur.setIfInBounds j (.int .u8 y.toNat), by rw [List.length_set]; exact hv2, hb, block_set hh, by rw [List.length_set]; exact hc, hm, by rw [Array.size_setIfInBounds]; exact hs, ?_⟩⟩
    rw [List.length_set, LF_bV, List.map_set, ← LF_bV, ← ht, Array.toList_setIfInBounds, List.take_set]
set_option maxRecDepth 100000 in
set_option maxHeartbeats 4000000 in
theorem lose_any (f : Fl) (w : World) (hf : Fok w f) (hne : f.v.ownBlock ≠ some f.B) (keep : Int) (torn : Bool) (hb : f.d.length ≤ 16777216) :
    Calls Try.prog 44 #[.pointer (some ⟨f.B, 0, none⟩), .int .i64 keep, .bool torn] w fun e w' => e = .returned (.tuple #[]) ∧ ∃ f', Lost keep torn f w w' f' := by
  obtain ⟨pv, cv, hv⟩ := row_shape hf
  have hle := hf.le
  have HF := Lib.hid hf
  have hbox := hf.box
  rw [hv] at hbox
  have Hbox := Lib.hid hbox
  have hrow := hf.row
  rw [hv] at hrow
  have Hrow := Lib.hid hrow
  have Hv := Lib.hid hv
  have HV0 := Lib.hid (fun w1 (h1 : Below w.heap.size w w1) => (by have e := (h1.cell (p := ⟨f.B, 0, none⟩) (lt_of_block Hbox.out)).trans (block_cell Hbox.out 0); simp [go_sem, e] : (loadVar 29 ⟨f.B, 0, none⟩).run Try.prog w1 = .ok (.slice pv f.d.length cv) w1))
  have HS0 := Lib.hid (fun w1 (h1 : Below w.heap.size w w1) => (by have e := (h1.cell (p := ⟨f.B, 1, none⟩) (lt_of_block Hbox.out)).trans (block_cell Hbox.out 1); simp [go_sem, e] : (loadVar 3 ⟨f.B, 1, none⟩).run Try.prog w1 = .ok (.int .i64 (f.s : Nat)) w1))
  obtain ⟨kn, hkn⟩ : ∃ kn, kn = keptN keep f.d f.s := ⟨_, rfl⟩
  have hk0 := keptN_le keep f.d f.s
  rw [← hkn] at hk0
  have Hkn := Lib.hid hkn
  have hkd : kn = min (max keep 0).toNat (f.d.length - f.s) := hkn
  obtain ⟨p1, c1, hsl, hrow1, hown1, hup⟩ := own_upto (n := f.s + kn) hrow (by omega)
  have Hsl := Lib.hid hsl
  have Hrow1 := Lib.hid hrow1
  have Hup := Lib.hid (show ∀ k, uptoV f.v k = .slice p1 k c1 from fun k => by rw [Hv.out]; exact hup k)
  clear hup
  have Hown1' : ∀ g, (Value.slice p1 (f.s + kn) c1).ownBlock = some g → f.v.ownBlock = some g := fun g hg => by rw [Hv.out]; exact hown1 g hg
  clear hf hv hbox hrow hsl hrow1 hown1 hkn
  have hw1 : IntKind.i64.wrap ((f.d.length : Int) - (f.s : Int)) = (f.d.length : Int) - (f.s : Int) := by simp [IntKind.wrap, IntKind.bits, IntKind.signed]; omega
  have hw2 : IntKind.i64.wrap ((f.s : Int) + (kn : Int)) = ((f.s + kn : Nat) : Int) := by simp [IntKind.wrap, IntKind.bits, IntKind.signed]; omega
  rcases (by omega : (keep < 0 ∧ kn = 0) ∨ (0 ≤ keep ∧ keep ≤ (f.d.length : Int) - f.s ∧ keep = kn) ∨ (0 ≤ keep ∧ (f.d.length : Int) - f.s < keep ∧ (f.d.length : Int) - f.s = kn)) with ⟨k1, k2⟩ | ⟨k1, k2, k3⟩ | ⟨k1, k2, k3⟩
  · have k4 : ¬ 0 ≤ keep := by omega
    clear hkd
    subst k2
    rw [Nat.add_zero] at Hsl Hrow1 Hown1' hw2
    have hw3 : IntKind.i64.wrap (f.s : Int) = (f.s : Int) := hw2
    go_enter Try.func44, Try.ntmps44
    go_wp2_with fail
    refine wp_region_class (Below w.heap.size w) (by kernel_rfl) (by kernel_rfl) (Below.refl _ _).drew ?_
    repeat (go_big_quiet_step (first | (intro _; rfl)))
    refine wpQuiet_load_at rfl 29 (.tmp 11) rfl ⟨f.B, 0, none⟩ rfl (.slice pv f.d.length cv) HV0.out ?_
    simp only [Act.put, List.setIfInBounds_toArray, List.set_cons_succ, List.set_cons_zero]
    repeat (go_big_quiet_step (first | (intro _; rfl)))
    refine wpQuiet_load_at rfl 3 (.tmp 16) rfl ⟨f.B, 1, none⟩ rfl (.int .i64 (f.s : Nat)) HS0.out ?_
    simp only [Act.put, List.setIfInBounds_toArray, List.set_cons_succ, List.set_cons_zero]
    repeat (go_big_quiet_step (first | (intro _; rfl)))
    refine wpQuiet_nil ?_
    intro wq hBq
    have HB1 := Lib.hid hBq
    have hbx := (hBq.block f.B (lt_of_block Hbox.out)).trans Hbox.out
    have Hbx := Lib.hid hbx
    have HV1 := Lib.hid (fun w1 (h1 : Below wq.heap.size wq w1) => (by have e := (h1.cell (p := ⟨f.B, 0, none⟩) (lt_of_block Hbx.out)).trans (block_cell Hbx.out 0); simp [go_sem, e] : (loadVar 29 ⟨f.B, 0, none⟩).run Try.prog w1 = .ok (.slice pv f.d.length cv) w1))
    have HS1 := Lib.hid (fun w1 (h1 : Below wq.heap.size wq w1) => (by have e := (h1.cell (p := ⟨f.B, 1, none⟩) (lt_of_block Hbx.out)).trans (block_cell Hbx.out 1); simp [go_sem, e] : (loadVar 3 ⟨f.B, 1, none⟩).run Try.prog w1 = .ok (.int .i64 (f.s : Nat)) w1))
    clear hBq hbx
    go_wp2_with fail
    refine wp_region_class_tail (Below wq.heap.size wq) 14 (by kernel_rfl) (by kernel_rfl) (Below.refl _ _).drew ?_
    simp only [List.take_succ_cons, List.take_zero, List.drop_succ_cons, List.drop_zero]
    repeat (go_big_quiet_step (first | (intro _; rfl)))
    refine wpQuiet_load_at rfl 29 (.tmp 23) rfl ⟨f.B, 0, none⟩ rfl (.slice pv f.d.length cv) HV1.out ?_
    simp only [Act.put, List.setIfInBounds_toArray, List.set_cons_succ, List.set_cons_zero]
    repeat (go_big_quiet_step (first | (intro _; rfl)))
    refine wpQuiet_load_at rfl 3 (.tmp 27) rfl ⟨f.B, 1, none⟩ rfl (.int .i64 (f.s : Nat)) HS1.out ?_
    simp only [Act.put, List.setIfInBounds_toArray, List.set_cons_succ, List.set_cons_zero]
    repeat (go_big_quiet_step (first | (intro _; rfl)))
    refine wpQuiet_upto_at rfl 29 (.tmp 24) (.tmp 30) rfl (.slice pv f.d.length cv) (.int .i64 (f.s : Nat)) (.slice p1 (f.s) c1) rfl rfl Hsl.out ?_
    simp only [Act.put, List.setIfInBounds_toArray, List.set_cons_succ, List.set_cons_zero]
    repeat (go_big_quiet_step (first | (intro _; rfl)))
    refine wpQuiet_nil ?_
    intro wz hBz
    have hB2 := HB1.out.trans (hBz.mono HB1.out.size)
    have hbx2 := (hBz.block f.B (lt_of_block Hbx.out)).trans Hbx.out
    have c0 := block_cell hbx2 0
    have f0 := block_free hbx2 0
    have hS := Lib.hid (show (wz.setCell ⟨f.B, 0, none⟩ (.slice p1 (f.s) c1)).heap[f.B]? = some (.cells #[.slice p1 (f.s) c1, .int .i64 (f.s : Nat)] 66 (0, 0)) from block_set (i := 0) (u := .slice p1 (f.s) c1) hbx2)
    have hR := Lib.hid (own_of (w' := wz.setCell ⟨f.B, 0, none⟩ (.slice p1 (f.s) c1)) Hrow1.out (fun g hg => (set_other _ _ _ _ _ (fun e => hne (by rw [← e]; exact Hown1' g hg))).trans (hB2.block g ((own_lt0 Hrow1.out hg)))))
    have hO := Lib.hid (show ∀ k, k < w.heap.size → k ≠ f.B → (wz.setCell ⟨f.B, 0, none⟩ (.slice p1 (f.s) c1)).heap[k]? = w.heap[k]? from fun k hk hne => (set_other _ _ _ _ _ hne).trans (hB2.block k hk))
    have hZ := Lib.hid (show (wz.setCell ⟨f.B, 0, none⟩ (.slice p1 (f.s) c1)).os = w.os ∧ (wz.setCell ⟨f.B, 0, none⟩ (.slice p1 (f.s) c1)).tape = w.tape ∧ (wz.setCell ⟨f.B, 0, none⟩ (.slice p1 (f.s) c1)).output = w.output ∧ w.heap.size ≤ (wz.setCell ⟨f.B, 0, none⟩ (.slice p1 (f.s) c1)).heap.size from ⟨hB2.os, hB2.tape, hB2.output, by simp [World.setCell]; exact hB2.size⟩)
    have d0 := block_cell hS.out 0
    have d1 := block_cell hS.out 1
    have g1 := block_free hS.out 1
    clear hB2 hbx2 hBz
    have Hlen := Lib.hid (show (f.d.take (f.s)).length = f.s by rw [List.length_take]; omega)
    have hO := Lib.hid (show ∀ k, k < w.heap.size → k ∉ f.bl → (wz.setCell ⟨f.B, 0, none⟩ (.slice p1 (f.s) c1)).heap[k]? = w.heap[k]? from fun k hk hn => hO.out k hk (fun e => hn (Fl.mem_bl.2 (.inl e))))
    go_wp2_with fail
    exact bodyPost_end (v := .tuple #[]) (by simp [results, Try.results44]) rfl ⟨rfl, ⟨f.nm, f.B, .slice p1 (f.s) c1, f.d.take (f.s), f.s⟩, rfl, rfl, by show f.d.take f.s = _; unfold loseD; rw [← Hkn.out, if_neg (by omega), Nat.add_zero], Hlen.out.symm, (Hup.out _).symm, ⟨block_set (i := 1) (u := .int .i64 (f.s : Nat)) hS.out, by have h := own_of (w' := (wz.setCell ⟨f.B, 0, none⟩ (.slice p1 (f.s) c1)).setCell ⟨f.B, 1, none⟩ (.int .i64 (f.s : Nat))) hR.out (fun g hg => set_other _ _ _ _ _ (fun e => hne (by rw [← e]; exact Hown1' g hg))); simpa [show (f.d.take (f.s)).length = f.s from Hlen.out] using h, by show f.s ≤ (f.d.take (f.s)).length; rw [Hlen.out]; exact Nat.le_refl _⟩, fun g hg => Hown1' g hg, by have h := hZ.out.2.2.2; simpa [World.setCell] using h, fun k hk hn => (set_other _ _ _ _ _ (fun e => hn (Fl.mem_bl.2 (.inl e)))).trans (hO.out k hk hn), hZ.out.1, hZ.out.2.1, hZ.out.2.2.1⟩
  · subst k3
    clear hkd
    have k4 : ¬ (kn : Int) < 0 := by omega
    go_enter Try.func44, Try.ntmps44
    go_wp2_with fail
    refine wp_region_class (Below w.heap.size w) (by kernel_rfl) (by kernel_rfl) (Below.refl _ _).drew ?_
    repeat (go_big_quiet_step (first | (intro _; rfl)))
    refine wpQuiet_load_at rfl 29 (.tmp 11) rfl ⟨f.B, 0, none⟩ rfl (.slice pv f.d.length cv) HV0.out ?_
    simp only [Act.put, List.setIfInBounds_toArray, List.set_cons_succ, List.set_cons_zero]
    repeat (go_big_quiet_step (first | (intro _; rfl)))
    refine wpQuiet_load_at rfl 3 (.tmp 16) rfl ⟨f.B, 1, none⟩ rfl (.int .i64 (f.s : Nat)) HS0.out ?_
    simp only [Act.put, List.setIfInBounds_toArray, List.set_cons_succ, List.set_cons_zero]
    repeat (go_big_quiet_step (first | (intro _; rfl)))
    refine wpQuiet_nil ?_
    intro wq hBq
    have HB1 := Lib.hid hBq
    have hbx := (hBq.block f.B (lt_of_block Hbox.out)).trans Hbox.out
    have Hbx := Lib.hid hbx
    have HV1 := Lib.hid (fun w1 (h1 : Below wq.heap.size wq w1) => (by have e := (h1.cell (p := ⟨f.B, 0, none⟩) (lt_of_block Hbx.out)).trans (block_cell Hbx.out 0); simp [go_sem, e] : (loadVar 29 ⟨f.B, 0, none⟩).run Try.prog w1 = .ok (.slice pv f.d.length cv) w1))
    have HS1 := Lib.hid (fun w1 (h1 : Below wq.heap.size wq w1) => (by have e := (h1.cell (p := ⟨f.B, 1, none⟩) (lt_of_block Hbx.out)).trans (block_cell Hbx.out 1); simp [go_sem, e] : (loadVar 3 ⟨f.B, 1, none⟩).run Try.prog w1 = .ok (.int .i64 (f.s : Nat)) w1))
    clear hBq hbx
    go_wp2_with fail
    refine wp_region_class_tail (Below wq.heap.size wq) 14 (by kernel_rfl) (by kernel_rfl) (Below.refl _ _).drew ?_
    simp only [List.take_succ_cons, List.take_zero, List.drop_succ_cons, List.drop_zero]
    repeat (go_big_quiet_step (first | (intro _; rfl)))
    refine wpQuiet_load_at rfl 29 (.tmp 23) rfl ⟨f.B, 0, none⟩ rfl (.slice pv f.d.length cv) HV1.out ?_
    simp only [Act.put, List.setIfInBounds_toArray, List.set_cons_succ, List.set_cons_zero]
    repeat (go_big_quiet_step (first | (intro _; rfl)))
    refine wpQuiet_load_at rfl 3 (.tmp 27) rfl ⟨f.B, 1, none⟩ rfl (.int .i64 (f.s : Nat)) HS1.out ?_
    simp only [Act.put, List.setIfInBounds_toArray, List.set_cons_succ, List.set_cons_zero]
    repeat (go_big_quiet_step (first | (intro _; rfl)))
    refine wpQuiet_upto_at rfl 29 (.tmp 24) (.tmp 30) rfl (.slice pv f.d.length cv) (.int .i64 (f.s + kn : Nat)) (.slice p1 (f.s + kn) c1) rfl rfl Hsl.out ?_
    simp only [Act.put, List.setIfInBounds_toArray, List.set_cons_succ, List.set_cons_zero]
    repeat (go_big_quiet_step (first | (intro _; rfl)))
    refine wpQuiet_nil ?_
    intro wz hBz
    have hB2 := HB1.out.trans (hBz.mono HB1.out.size)
    have hbx2 := (hBz.block f.B (lt_of_block Hbx.out)).trans Hbx.out
    have c0 := block_cell hbx2 0
    have f0 := block_free hbx2 0
    have hS := Lib.hid (show (wz.setCell ⟨f.B, 0, none⟩ (.slice p1 (f.s + kn) c1)).heap[f.B]? = some (.cells #[.slice p1 (f.s + kn) c1, .int .i64 (f.s : Nat)] 66 (0, 0)) from block_set (i := 0) (u := .slice p1 (f.s + kn) c1) hbx2)
    have hR := Lib.hid (own_of (w' := wz.setCell ⟨f.B, 0, none⟩ (.slice p1 (f.s + kn) c1)) Hrow1.out (fun g hg => (set_other _ _ _ _ _ (fun e => hne (by rw [← e]; exact Hown1' g hg))).trans (hB2.block g ((own_lt0 Hrow1.out hg)))))
    have hO := Lib.hid (show ∀ k, k < w.heap.size → k ≠ f.B → (wz.setCell ⟨f.B, 0, none⟩ (.slice p1 (f.s + kn) c1)).heap[k]? = w.heap[k]? from fun k hk hne => (set_other _ _ _ _ _ hne).trans (hB2.block k hk))
    have hZ := Lib.hid (show (wz.setCell ⟨f.B, 0, none⟩ (.slice p1 (f.s + kn) c1)).os = w.os ∧ (wz.setCell ⟨f.B, 0, none⟩ (.slice p1 (f.s + kn) c1)).tape = w.tape ∧ (wz.setCell ⟨f.B, 0, none⟩ (.slice p1 (f.s + kn) c1)).output = w.output ∧ w.heap.size ≤ (wz.setCell ⟨f.B, 0, none⟩ (.slice p1 (f.s + kn) c1)).heap.size from ⟨hB2.os, hB2.tape, hB2.output, by simp [World.setCell]; exact hB2.size⟩)
    have d0 := block_cell hS.out 0
    have d1 := block_cell hS.out 1
    have g1 := block_free hS.out 1
    clear hB2 hbx2 hBz
    have Hlen := Lib.hid (show (f.d.take (f.s + kn)).length = f.s + kn by rw [List.length_take]; omega)
    by_cases h0 : 0 < kn
    · have h0I : (0 : Int) < (kn : Int) := by omega
      cases torn with
      | false =>
        have hO := Lib.hid (show ∀ k, k < w.heap.size → k ∉ f.bl → (wz.setCell ⟨f.B, 0, none⟩ (.slice p1 (f.s + kn) c1)).heap[k]? = w.heap[k]? from fun k hk hn => hO.out k hk (fun e => hn (Fl.mem_bl.2 (.inl e))))
        go_wp2_with fail
        exact bodyPost_end (v := .tuple #[]) (by simp [results, Try.results44]) rfl ⟨rfl, ⟨f.nm, f.B, .slice p1 (f.s + kn) c1, f.d.take (f.s + kn), f.s + kn⟩, rfl, rfl, by show f.d.take (f.s + kn) = _; unfold loseD; rw [← Hkn.out, if_neg (by simp)], Hlen.out.symm, (Hup.out _).symm, ⟨block_set (i := 1) (u := .int .i64 (f.s + kn : Nat)) hS.out, by have h := own_of (w' := (wz.setCell ⟨f.B, 0, none⟩ (.slice p1 (f.s + kn) c1)).setCell ⟨f.B, 1, none⟩ (.int .i64 (f.s + kn : Nat))) hR.out (fun g hg => set_other _ _ _ _ _ (fun e => hne (by rw [← e]; exact Hown1' g hg))); simpa [show (f.d.take (f.s + kn)).length = f.s + kn from Hlen.out] using h, by show f.s + kn ≤ (f.d.take (f.s + kn)).length; rw [Hlen.out]; exact Nat.le_refl _⟩, fun g hg => Hown1' g hg, by have h := hZ.out.2.2.2; simpa [World.setCell] using h, fun k hk hn => (set_other _ _ _ _ _ (fun e => hn (Fl.mem_bl.2 (.inl e)))).trans (hO.out k hk hn), hZ.out.1, hZ.out.2.1, hZ.out.2.2.1⟩
      | true =>
        obtain ⟨g, rfl⟩ : ∃ g, p1 = some ⟨g, 0, none⟩ := by
          rcases Hrow1.out.2 with ⟨_, h1⟩ | ⟨g, cap, cur, hv, _⟩
          · omega
          · injection hv with e1; exact ⟨g, e1⟩
        have hfd : ∀ j, j < f.s + kn → (f.d.take (f.s + kn)).getD j 0 = f.d.getD j 0 := fun j hj => by
          rw [List.getD_eq_getElem?_getD, List.getD_eq_getElem?_getD, List.getElem?_take_of_lt hj]
        have hcell := own_cell (l := f.d.take (f.s + kn)) (by rw [Hlen.out]; exact hR.out) Hlen.out.symm (j := f.s + kn - 1) (by rw [Hlen.out]; omega)
        have hnb : f.s + kn ≤ 16777216 := by omega
        obtain ⟨m, hm⟩ : ∃ m, f.s + kn = m + 1 := ⟨f.s + kn - 1, by omega⟩
        rw [show f.s + kn - 1 = m by omega, hfd m (by omega)] at hcell
        have hm1 : ((f.s + kn : Nat) : Int) - 1 = (m : Int) := by omega
        have hm2 : (f.s : Int) + (kn : Int) - 1 = (m : Int) := by omega
        have hwm : IntKind.i64.wrap (m : Int) = (m : Int) := by simp [IntKind.wrap, IntKind.bits, IntKind.signed]; omega
        have hml : (m : Int) < ((f.s + kn : Nat) : Int) := by omega
        have hml2 : (m : Int) < (f.s : Int) + (kn : Int) := by omega
        have hm0 : (0 : Int) ≤ (m : Int) := by omega
        obtain ⟨x, hx⟩ : ∃ x, x = f.d.getD m 0 := ⟨_, rfl⟩
        rw [← hx] at hcell
        have Hx := Lib.hid hx
        have hxb := xor_byte x
        obtain ⟨y, hy⟩ : ∃ y, y = x ^^^ 255 := ⟨_, rfl⟩
        rw [← hy] at hxb
        have Hy := Lib.hid hy
        clear hx hy
        have Hcell := Lib.hid hcell
        have Hm := Lib.hid hm
        have hgl := own_lt0 hR.out (g := g) rfl
        have hgB : g ≠ f.B := fun e => hne (by rw [← e]; exact Hown1' g rfl)
        clear hcell hm hfd
        go_wp2_with fail
        generalize hws : wz.setCell ⟨f.B, 0, none⟩ (.slice (some ⟨g, 0, none⟩) (f.s + kn) c1) = ws at *
        clear hws
        have HV2 := Lib.hid (fun w1 (h1 : Below ws.heap.size ws w1) => (by have e := (h1.cell (p := ⟨f.B, 0, none⟩) (lt_of_block hS.out)).trans (block_cell hS.out 0); simp [go_sem, e] : (loadVar 29 ⟨f.B, 0, none⟩).run Try.prog w1 = .ok (.slice (some ⟨g, 0, none⟩) (f.s + kn) c1) w1))
        have HC2 := Lib.hid (fun w1 (h1 : Below ws.heap.size ws w1) => (by have e := (h1.cell (p := ⟨g, m, none⟩) hgl).trans Hcell.out.1; simp [go_sem, e] : (loadVar 5 ⟨g, m, none⟩).run Try.prog w1 = .ok (.int .u8 (x.toNat : Nat)) w1))
        refine wp_region_class_tail (Below ws.heap.size ws) 14 (by kernel_rfl) (by kernel_rfl) (Below.refl _ _).drew ?_
        simp only [List.take_succ_cons, List.take_zero, List.drop_succ_cons, List.drop_zero]
        repeat (go_big_quiet_step (first | (intro _; rfl)))
        refine wpQuiet_load_at rfl 29 (.tmp 41) rfl ⟨f.B, 0, none⟩ rfl (.slice (some ⟨g, 0, none⟩) (f.s + kn) c1) HV2.out ?_
        simp only [Act.put, List.setIfInBounds_toArray, List.set_cons_succ, List.set_cons_zero]
        repeat (go_big_quiet_step (first | (intro _; rfl)))
        refine wpQuiet_load_at rfl 29 (.tmp 45) rfl ⟨f.B, 0, none⟩ rfl (.slice (some ⟨g, 0, none⟩) (f.s + kn) c1) HV2.out ?_
        simp only [Act.put, List.setIfInBounds_toArray, List.set_cons_succ, List.set_cons_zero]
        repeat (go_big_quiet_step (first | (intro _; rfl)))
        refine wpQuiet_load_at rfl 5 (.tmp 49) rfl ⟨g, m, none⟩ rfl (.int .u8 (x.toNat : Nat)) HC2.out ?_
        simp only [Act.put, List.setIfInBounds_toArray, List.set_cons_succ, List.set_cons_zero]
        repeat (go_big_quiet_step (first | (intro _; rfl)))
        refine wpQuiet_nil ?_
        intro wy hBy
        have hc9 := (hBy.cell (p := ⟨g, m, none⟩) hgl).trans Hcell.out.1
        have hf9 : wy.frozen? ⟨g, m, none⟩ = false := (own_cell (l := f.d.take (f.s + kn)) (by rw [Hlen.out]; exact own_of hR.out (fun g2 hg2 => hBy.block g2 (own_lt0 hR.out hg2))) Hlen.out.symm (j := m) (by rw [Hlen.out]; omega)).2
        have HBy := Lib.hid hBy
        clear hBy
        have hS2 := Lib.hid (show (wy.setCell ⟨g, m, none⟩ (.int .u8 (y.toNat : Nat))).heap[f.B]? = some (.cells #[.slice (some ⟨g, 0, none⟩) (f.s + kn) c1, .int .i64 (f.s : Nat)] 66 (0, 0)) from (set_other _ _ _ _ _ (Ne.symm hgB)).trans ((HBy.out.block f.B (lt_of_block hS.out)).trans hS.out))
        have Hlen2 := Lib.hid (show ((f.d.take (f.s + kn)).set m y).length = f.s + kn by rw [List.length_set]; exact Hlen.out)
        have hR2 := Lib.hid (show (wy.setCell ⟨g, m, none⟩ (.int .u8 (y.toNat : Nat))).ownsRow 0 5 1 (.slice (some ⟨g, 0, none⟩) (f.s + kn) c1) (f.s + kn) (LF bV ((f.d.take (f.s + kn)).set m y)) from by
          have h := own_set (l := f.d.take (f.s + kn)) (by rw [Hlen.out]; exact own_of hR.out (fun g2 hg2 => HBy.out.block g2 (own_lt0 hR.out hg2))) m y
          rw [Hlen2.out] at h
          exact h)
        have hO2 := Lib.hid (show ∀ k, k < w.heap.size → k ∉ f.bl → (wy.setCell ⟨g, m, none⟩ (.int .u8 (y.toNat : Nat))).heap[k]? = w.heap[k]? from fun k hk hn => (set_other _ _ _ _ _ (fun e => hn (Fl.mem_bl.2 (.inr (by rw [e]; exact Hown1' g rfl))))).trans ((HBy.out.block k (Nat.lt_of_lt_of_le hk hZ.out.2.2.2)).trans (hO.out k hk (fun e => hn (Fl.mem_bl.2 (.inl e))))))
        have hZ2 := Lib.hid (show (wy.setCell ⟨g, m, none⟩ (.int .u8 (y.toNat : Nat))).os = w.os ∧ (wy.setCell ⟨g, m, none⟩ (.int .u8 (y.toNat : Nat))).tape = w.tape ∧ (wy.setCell ⟨g, m, none⟩ (.int .u8 (y.toNat : Nat))).output = w.output ∧ w.heap.size ≤ (wy.setCell ⟨g, m, none⟩ (.int .u8 (y.toNat : Nat))).heap.size from ⟨HBy.out.os.trans hZ.out.1, HBy.out.tape.trans hZ.out.2.1, HBy.out.output.trans hZ.out.2.2.1, by have h1 := HBy.out.size; have h2 := hZ.out.2.2.2; simp [World.setCell]; omega⟩)
        have d0 := block_cell hS2.out 0
        have d1 := block_cell hS2.out 1
        have g1 := block_free hS2.out 1
        go_wp2_with fail
        exact bodyPost_end (v := .tuple #[]) (by simp [results, Try.results44]) rfl ⟨rfl, ⟨f.nm, f.B, .slice (some ⟨g, 0, none⟩) (f.s + kn) c1, (f.d.take (f.s + kn)).set m y, f.s + kn⟩, rfl, rfl, by show (f.d.take (f.s + kn)).set m y = _; unfold loseD; rw [← Hkn.out, if_pos ⟨h0, rfl⟩, show f.s + kn - 1 = m by have := Hm.out; omega, ← Hx.out, ← Hy.out], Hlen2.out.symm, (Hup.out _).symm, ⟨block_set (i := 1) (u := .int .i64 (f.s + kn : Nat)) hS2.out, by have h := own_of (w' := (wy.setCell ⟨g, m, none⟩ (.int .u8 (y.toNat : Nat))).setCell ⟨f.B, 1, none⟩ (.int .i64 (f.s + kn : Nat))) hR2.out (fun g hg => set_other _ _ _ _ _ (fun e => hne (by rw [← e]; exact Hown1' g hg))); simpa [show ((f.d.take (f.s + kn)).set m y).length = f.s + kn from Hlen2.out] using h, by show f.s + kn ≤ ((f.d.take (f.s + kn)).set m y).length; rw [Hlen2.out]; exact Nat.le_refl _⟩, fun g hg => Hown1' g hg, by have h := hZ2.out.2.2.2; simpa [World.setCell] using h, fun k hk hn => (set_other _ _ _ _ _ (fun e => hn (Fl.mem_bl.2 (.inl e)))).trans (hO2.out k hk hn), hZ2.out.1, hZ2.out.2.1, hZ2.out.2.2.1⟩
    · have h0I : ¬ (0 : Int) < (kn : Int) := by omega
      have hO := Lib.hid (show ∀ k, k < w.heap.size → k ∉ f.bl → (wz.setCell ⟨f.B, 0, none⟩ (.slice p1 (f.s + kn) c1)).heap[k]? = w.heap[k]? from fun k hk hn => hO.out k hk (fun e => hn (Fl.mem_bl.2 (.inl e))))
      go_wp2_with fail
      exact bodyPost_end (v := .tuple #[]) (by simp [results, Try.results44]) rfl ⟨rfl, ⟨f.nm, f.B, .slice p1 (f.s + kn) c1, f.d.take (f.s + kn), f.s + kn⟩, rfl, rfl, by show f.d.take (f.s + kn) = _; unfold loseD; rw [← Hkn.out, if_neg (by omega)], Hlen.out.symm, (Hup.out _).symm, ⟨block_set (i := 1) (u := .int .i64 (f.s + kn : Nat)) hS.out, by have h := own_of (w' := (wz.setCell ⟨f.B, 0, none⟩ (.slice p1 (f.s + kn) c1)).setCell ⟨f.B, 1, none⟩ (.int .i64 (f.s + kn : Nat))) hR.out (fun g hg => set_other _ _ _ _ _ (fun e => hne (by rw [← e]; exact Hown1' g hg))); simpa [show (f.d.take (f.s + kn)).length = f.s + kn from Hlen.out] using h, by show f.s + kn ≤ (f.d.take (f.s + kn)).length; rw [Hlen.out]; exact Nat.le_refl _⟩, fun g hg => Hown1' g hg, by have h := hZ.out.2.2.2; simpa [World.setCell] using h, fun k hk hn => (set_other _ _ _ _ _ (fun e => hn (Fl.mem_bl.2 (.inl e)))).trans (hO.out k hk hn), hZ.out.1, hZ.out.2.1, hZ.out.2.2.1⟩
  · clear hkd
    have k4 : ¬ keep ≤ (f.d.length : Int) - f.s := by omega
    have k5 : ¬ keep ≤ (kn : Int) := by omega
    go_enter Try.func44, Try.ntmps44
    go_wp2_with fail
    refine wp_region_class (Below w.heap.size w) (by kernel_rfl) (by kernel_rfl) (Below.refl _ _).drew ?_
    repeat (go_big_quiet_step (first | (intro _; rfl)))
    refine wpQuiet_load_at rfl 29 (.tmp 11) rfl ⟨f.B, 0, none⟩ rfl (.slice pv f.d.length cv) HV0.out ?_
    simp only [Act.put, List.setIfInBounds_toArray, List.set_cons_succ, List.set_cons_zero]
    repeat (go_big_quiet_step (first | (intro _; rfl)))
    refine wpQuiet_load_at rfl 3 (.tmp 16) rfl ⟨f.B, 1, none⟩ rfl (.int .i64 (f.s : Nat)) HS0.out ?_
    simp only [Act.put, List.setIfInBounds_toArray, List.set_cons_succ, List.set_cons_zero]
    repeat (go_big_quiet_step (first | (intro _; rfl)))
    refine wpQuiet_nil ?_
    intro wq hBq
    try rw [k3]
    have HB1 := Lib.hid hBq
    have hbx := (hBq.block f.B (lt_of_block Hbox.out)).trans Hbox.out
    have Hbx := Lib.hid hbx
    have HV1 := Lib.hid (fun w1 (h1 : Below wq.heap.size wq w1) => (by have e := (h1.cell (p := ⟨f.B, 0, none⟩) (lt_of_block Hbx.out)).trans (block_cell Hbx.out 0); simp [go_sem, e] : (loadVar 29 ⟨f.B, 0, none⟩).run Try.prog w1 = .ok (.slice pv f.d.length cv) w1))
    have HS1 := Lib.hid (fun w1 (h1 : Below wq.heap.size wq w1) => (by have e := (h1.cell (p := ⟨f.B, 1, none⟩) (lt_of_block Hbx.out)).trans (block_cell Hbx.out 1); simp [go_sem, e] : (loadVar 3 ⟨f.B, 1, none⟩).run Try.prog w1 = .ok (.int .i64 (f.s : Nat)) w1))
    clear hBq hbx
    go_wp2_with fail
    refine wp_region_class_tail (Below wq.heap.size wq) 14 (by kernel_rfl) (by kernel_rfl) (Below.refl _ _).drew ?_
    simp only [List.take_succ_cons, List.take_zero, List.drop_succ_cons, List.drop_zero]
    repeat (go_big_quiet_step (first | (intro _; rfl)))
    refine wpQuiet_load_at rfl 29 (.tmp 23) rfl ⟨f.B, 0, none⟩ rfl (.slice pv f.d.length cv) HV1.out ?_
    simp only [Act.put, List.setIfInBounds_toArray, List.set_cons_succ, List.set_cons_zero]
    repeat (go_big_quiet_step (first | (intro _; rfl)))
    refine wpQuiet_load_at rfl 3 (.tmp 27) rfl ⟨f.B, 1, none⟩ rfl (.int .i64 (f.s : Nat)) HS1.out ?_
    simp only [Act.put, List.setIfInBounds_toArray, List.set_cons_succ, List.set_cons_zero]
    repeat (go_big_quiet_step (first | (intro _; rfl)))
    refine wpQuiet_upto_at rfl 29 (.tmp 24) (.tmp 30) rfl (.slice pv f.d.length cv) (.int .i64 (f.s + kn : Nat)) (.slice p1 (f.s + kn) c1) rfl rfl Hsl.out ?_
    simp only [Act.put, List.setIfInBounds_toArray, List.set_cons_succ, List.set_cons_zero]
    repeat (go_big_quiet_step (first | (intro _; rfl)))
    refine wpQuiet_nil ?_
    intro wz hBz
    have hB2 := HB1.out.trans (hBz.mono HB1.out.size)
    have hbx2 := (hBz.block f.B (lt_of_block Hbx.out)).trans Hbx.out
    have c0 := block_cell hbx2 0
    have f0 := block_free hbx2 0
    have hS := Lib.hid (show (wz.setCell ⟨f.B, 0, none⟩ (.slice p1 (f.s + kn) c1)).heap[f.B]? = some (.cells #[.slice p1 (f.s + kn) c1, .int .i64 (f.s : Nat)] 66 (0, 0)) from block_set (i := 0) (u := .slice p1 (f.s + kn) c1) hbx2)
    have hR := Lib.hid (own_of (w' := wz.setCell ⟨f.B, 0, none⟩ (.slice p1 (f.s + kn) c1)) Hrow1.out (fun g hg => (set_other _ _ _ _ _ (fun e => hne (by rw [← e]; exact Hown1' g hg))).trans (hB2.block g ((own_lt0 Hrow1.out hg)))))
    have hO := Lib.hid (show ∀ k, k < w.heap.size → k ≠ f.B → (wz.setCell ⟨f.B, 0, none⟩ (.slice p1 (f.s + kn) c1)).heap[k]? = w.heap[k]? from fun k hk hne => (set_other _ _ _ _ _ hne).trans (hB2.block k hk))
    have hZ := Lib.hid (show (wz.setCell ⟨f.B, 0, none⟩ (.slice p1 (f.s + kn) c1)).os = w.os ∧ (wz.setCell ⟨f.B, 0, none⟩ (.slice p1 (f.s + kn) c1)).tape = w.tape ∧ (wz.setCell ⟨f.B, 0, none⟩ (.slice p1 (f.s + kn) c1)).output = w.output ∧ w.heap.size ≤ (wz.setCell ⟨f.B, 0, none⟩ (.slice p1 (f.s + kn) c1)).heap.size from ⟨hB2.os, hB2.tape, hB2.output, by simp [World.setCell]; exact hB2.size⟩)
    have d0 := block_cell hS.out 0
    have d1 := block_cell hS.out 1
    have g1 := block_free hS.out 1
    clear hB2 hbx2 hBz
    have Hlen := Lib.hid (show (f.d.take (f.s + kn)).length = f.s + kn by rw [List.length_take]; omega)
    by_cases h0 : 0 < kn
    · have h0I : (0 : Int) < (kn : Int) := by omega
      cases torn with
      | false =>
        have hO := Lib.hid (show ∀ k, k < w.heap.size → k ∉ f.bl → (wz.setCell ⟨f.B, 0, none⟩ (.slice p1 (f.s + kn) c1)).heap[k]? = w.heap[k]? from fun k hk hn => hO.out k hk (fun e => hn (Fl.mem_bl.2 (.inl e))))
        go_wp2_with fail
        exact bodyPost_end (v := .tuple #[]) (by simp [results, Try.results44]) rfl ⟨rfl, ⟨f.nm, f.B, .slice p1 (f.s + kn) c1, f.d.take (f.s + kn), f.s + kn⟩, rfl, rfl, by show f.d.take (f.s + kn) = _; unfold loseD; rw [← Hkn.out, if_neg (by simp)], Hlen.out.symm, (Hup.out _).symm, ⟨block_set (i := 1) (u := .int .i64 (f.s + kn : Nat)) hS.out, by have h := own_of (w' := (wz.setCell ⟨f.B, 0, none⟩ (.slice p1 (f.s + kn) c1)).setCell ⟨f.B, 1, none⟩ (.int .i64 (f.s + kn : Nat))) hR.out (fun g hg => set_other _ _ _ _ _ (fun e => hne (by rw [← e]; exact Hown1' g hg))); simpa [show (f.d.take (f.s + kn)).length = f.s + kn from Hlen.out] using h, by show f.s + kn ≤ (f.d.take (f.s + kn)).length; rw [Hlen.out]; exact Nat.le_refl _⟩, fun g hg => Hown1' g hg, by have h := hZ.out.2.2.2; simpa [World.setCell] using h, fun k hk hn => (set_other _ _ _ _ _ (fun e => hn (Fl.mem_bl.2 (.inl e)))).trans (hO.out k hk hn), hZ.out.1, hZ.out.2.1, hZ.out.2.2.1⟩
      | true =>
        obtain ⟨g, rfl⟩ : ∃ g, p1 = some ⟨g, 0, none⟩ := by
          rcases Hrow1.out.2 with ⟨_, h1⟩ | ⟨g, cap, cur, hv, _⟩
          · omega
          · injection hv with e1; exact ⟨g, e1⟩
        have hfd : ∀ j, j < f.s + kn → (f.d.take (f.s + kn)).getD j 0 = f.d.getD j 0 := fun j hj => by
          rw [List.getD_eq_getElem?_getD, List.getD_eq_getElem?_getD, List.getElem?_take_of_lt hj]
        have hcell := own_cell (l := f.d.take (f.s + kn)) (by rw [Hlen.out]; exact hR.out) Hlen.out.symm (j := f.s + kn - 1) (by rw [Hlen.out]; omega)
        have hnb : f.s + kn ≤ 16777216 := by omega
        obtain ⟨m, hm⟩ : ∃ m, f.s + kn = m + 1 := ⟨f.s + kn - 1, by omega⟩
        rw [show f.s + kn - 1 = m by omega, hfd m (by omega)] at hcell
        have hm1 : ((f.s + kn : Nat) : Int) - 1 = (m : Int) := by omega
        have hm2 : (f.s : Int) + (kn : Int) - 1 = (m : Int) := by omega
        have hwm : IntKind.i64.wrap (m : Int) = (m : Int) := by simp [IntKind.wrap, IntKind.bits, IntKind.signed]; omega
        have hml : (m : Int) < ((f.s + kn : Nat) : Int) := by omega
        have hml2 : (m : Int) < (f.s : Int) + (kn : Int) := by omega
        have hm0 : (0 : Int) ≤ (m : Int) := by omega
        obtain ⟨x, hx⟩ : ∃ x, x = f.d.getD m 0 := ⟨_, rfl⟩
        rw [← hx] at hcell
        have Hx := Lib.hid hx
        have hxb := xor_byte x
        obtain ⟨y, hy⟩ : ∃ y, y = x ^^^ 255 := ⟨_, rfl⟩
        rw [← hy] at hxb
        have Hy := Lib.hid hy
        clear hx hy
        have Hcell := Lib.hid hcell
        have Hm := Lib.hid hm
        have hgl := own_lt0 hR.out (g := g) rfl
        have hgB : g ≠ f.B := fun e => hne (by rw [← e]; exact Hown1' g rfl)
        clear hcell hm hfd
        go_wp2_with fail
        generalize hws : wz.setCell ⟨f.B, 0, none⟩ (.slice (some ⟨g, 0, none⟩) (f.s + kn) c1) = ws at *
        clear hws
        have HV2 := Lib.hid (fun w1 (h1 : Below ws.heap.size ws w1) => (by have e := (h1.cell (p := ⟨f.B, 0, none⟩) (lt_of_block hS.out)).trans (block_cell hS.out 0); simp [go_sem, e] : (loadVar 29 ⟨f.B, 0, none⟩).run Try.prog w1 = .ok (.slice (some ⟨g, 0, none⟩) (f.s + kn) c1) w1))
        have HC2 := Lib.hid (fun w1 (h1 : Below ws.heap.size ws w1) => (by have e := (h1.cell (p := ⟨g, m, none⟩) hgl).trans Hcell.out.1; simp [go_sem, e] : (loadVar 5 ⟨g, m, none⟩).run Try.prog w1 = .ok (.int .u8 (x.toNat : Nat)) w1))
        refine wp_region_class_tail (Below ws.heap.size ws) 14 (by kernel_rfl) (by kernel_rfl) (Below.refl _ _).drew ?_
        simp only [List.take_succ_cons, List.take_zero, List.drop_succ_cons, List.drop_zero]
        repeat (go_big_quiet_step (first | (intro _; rfl)))
        refine wpQuiet_load_at rfl 29 (.tmp 41) rfl ⟨f.B, 0, none⟩ rfl (.slice (some ⟨g, 0, none⟩) (f.s + kn) c1) HV2.out ?_
        simp only [Act.put, List.setIfInBounds_toArray, List.set_cons_succ, List.set_cons_zero]
        repeat (go_big_quiet_step (first | (intro _; rfl)))
        refine wpQuiet_load_at rfl 29 (.tmp 45) rfl ⟨f.B, 0, none⟩ rfl (.slice (some ⟨g, 0, none⟩) (f.s + kn) c1) HV2.out ?_
        simp only [Act.put, List.setIfInBounds_toArray, List.set_cons_succ, List.set_cons_zero]
        repeat (go_big_quiet_step (first | (intro _; rfl)))
        refine wpQuiet_load_at rfl 5 (.tmp 49) rfl ⟨g, m, none⟩ rfl (.int .u8 (x.toNat : Nat)) HC2.out ?_
        simp only [Act.put, List.setIfInBounds_toArray, List.set_cons_succ, List.set_cons_zero]
        repeat (go_big_quiet_step (first | (intro _; rfl)))
        refine wpQuiet_nil ?_
        intro wy hBy
        have hc9 := (hBy.cell (p := ⟨g, m, none⟩) hgl).trans Hcell.out.1
        have hf9 : wy.frozen? ⟨g, m, none⟩ = false := (own_cell (l := f.d.take (f.s + kn)) (by rw [Hlen.out]; exact own_of hR.out (fun g2 hg2 => hBy.block g2 (own_lt0 hR.out hg2))) Hlen.out.symm (j := m) (by rw [Hlen.out]; omega)).2
        have HBy := Lib.hid hBy
        clear hBy
        have hS2 := Lib.hid (show (wy.setCell ⟨g, m, none⟩ (.int .u8 (y.toNat : Nat))).heap[f.B]? = some (.cells #[.slice (some ⟨g, 0, none⟩) (f.s + kn) c1, .int .i64 (f.s : Nat)] 66 (0, 0)) from (set_other _ _ _ _ _ (Ne.symm hgB)).trans ((HBy.out.block f.B (lt_of_block hS.out)).trans hS.out))
        have Hlen2 := Lib.hid (show ((f.d.take (f.s + kn)).set m y).length = f.s + kn by rw [List.length_set]; exact Hlen.out)
        have hR2 := Lib.hid (show (wy.setCell ⟨g, m, none⟩ (.int .u8 (y.toNat : Nat))).ownsRow 0 5 1 (.slice (some ⟨g, 0, none⟩) (f.s + kn) c1) (f.s + kn) (LF bV ((f.d.take (f.s + kn)).set m y)) from by
          have h := own_set (l := f.d.take (f.s + kn)) (by rw [Hlen.out]; exact own_of hR.out (fun g2 hg2 => HBy.out.block g2 (own_lt0 hR.out hg2))) m y
          rw [Hlen2.out] at h
          exact h)
        have hO2 := Lib.hid (show ∀ k, k < w.heap.size → k ∉ f.bl → (wy.setCell ⟨g, m, none⟩ (.int .u8 (y.toNat : Nat))).heap[k]? = w.heap[k]? from fun k hk hn => (set_other _ _ _ _ _ (fun e => hn (Fl.mem_bl.2 (.inr (by rw [e]; exact Hown1' g rfl))))).trans ((HBy.out.block k (Nat.lt_of_lt_of_le hk hZ.out.2.2.2)).trans (hO.out k hk (fun e => hn (Fl.mem_bl.2 (.inl e))))))
        have hZ2 := Lib.hid (show (wy.setCell ⟨g, m, none⟩ (.int .u8 (y.toNat : Nat))).os = w.os ∧ (wy.setCell ⟨g, m, none⟩ (.int .u8 (y.toNat : Nat))).tape = w.tape ∧ (wy.setCell ⟨g, m, none⟩ (.int .u8 (y.toNat : Nat))).output = w.output ∧ w.heap.size ≤ (wy.setCell ⟨g, m, none⟩ (.int .u8 (y.toNat : Nat))).heap.size from ⟨HBy.out.os.trans hZ.out.1, HBy.out.tape.trans hZ.out.2.1, HBy.out.output.trans hZ.out.2.2.1, by have h1 := HBy.out.size; have h2 := hZ.out.2.2.2; simp [World.setCell]; omega⟩)
        have d0 := block_cell hS2.out 0
        have d1 := block_cell hS2.out 1
        have g1 := block_free hS2.out 1
        go_wp2_with fail
        exact bodyPost_end (v := .tuple #[]) (by simp [results, Try.results44]) rfl ⟨rfl, ⟨f.nm, f.B, .slice (some ⟨g, 0, none⟩) (f.s + kn) c1, (f.d.take (f.s + kn)).set m y, f.s + kn⟩, rfl, rfl, by show (f.d.take (f.s + kn)).set m y = _; unfold loseD; rw [← Hkn.out, if_pos ⟨h0, rfl⟩, show f.s + kn - 1 = m by have := Hm.out; omega, ← Hx.out, ← Hy.out], Hlen2.out.symm, (Hup.out _).symm, ⟨block_set (i := 1) (u := .int .i64 (f.s + kn : Nat)) hS2.out, by have h := own_of (w' := (wy.setCell ⟨g, m, none⟩ (.int .u8 (y.toNat : Nat))).setCell ⟨f.B, 1, none⟩ (.int .i64 (f.s + kn : Nat))) hR2.out (fun g hg => set_other _ _ _ _ _ (fun e => hne (by rw [← e]; exact Hown1' g hg))); simpa [show ((f.d.take (f.s + kn)).set m y).length = f.s + kn from Hlen2.out] using h, by show f.s + kn ≤ ((f.d.take (f.s + kn)).set m y).length; rw [Hlen2.out]; exact Nat.le_refl _⟩, fun g hg => Hown1' g hg, by have h := hZ2.out.2.2.2; simpa [World.setCell] using h, fun k hk hn => (set_other _ _ _ _ _ (fun e => hn (Fl.mem_bl.2 (.inl e)))).trans (hO2.out k hk hn), hZ2.out.1, hZ2.out.2.1, hZ2.out.2.2.1⟩
    · have h0I : ¬ (0 : Int) < (kn : Int) := by omega
      have hO := Lib.hid (show ∀ k, k < w.heap.size → k ∉ f.bl → (wz.setCell ⟨f.B, 0, none⟩ (.slice p1 (f.s + kn) c1)).heap[k]? = w.heap[k]? from fun k hk hn => hO.out k hk (fun e => hn (Fl.mem_bl.2 (.inl e))))
      go_wp2_with fail
      exact bodyPost_end (v := .tuple #[]) (by simp [results, Try.results44]) rfl ⟨rfl, ⟨f.nm, f.B, .slice p1 (f.s + kn) c1, f.d.take (f.s + kn), f.s + kn⟩, rfl, rfl, by show f.d.take (f.s + kn) = _; unfold loseD; rw [← Hkn.out, if_neg (by omega)], Hlen.out.symm, (Hup.out _).symm, ⟨block_set (i := 1) (u := .int .i64 (f.s + kn : Nat)) hS.out, by have h := own_of (w' := (wz.setCell ⟨f.B, 0, none⟩ (.slice p1 (f.s + kn) c1)).setCell ⟨f.B, 1, none⟩ (.int .i64 (f.s + kn : Nat))) hR.out (fun g hg => set_other _ _ _ _ _ (fun e => hne (by rw [← e]; exact Hown1' g hg))); simpa [show (f.d.take (f.s + kn)).length = f.s + kn from Hlen.out] using h, by show f.s + kn ≤ (f.d.take (f.s + kn)).length; rw [Hlen.out]; exact Nat.le_refl _⟩, fun g hg => Hown1' g hg, by have h := hZ.out.2.2.2; simpa [World.setCell] using h, fun k hk hn => (set_other _ _ _ _ _ (fun e => hn (Fl.mem_bl.2 (.inl e)))).trans (hO.out k hk hn), hZ.out.1, hZ.out.2.1, hZ.out.2.2.1⟩
end Go.Proofs.Ytfmcemedaehcoaa
