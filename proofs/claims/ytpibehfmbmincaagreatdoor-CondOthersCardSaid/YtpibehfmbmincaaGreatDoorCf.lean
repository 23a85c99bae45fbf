/- Walks: the statement CondLevels. -/
import Derived.Test.YtpibehfmbmincaaGreatDoorCe
import Derived.Lib.SlBytesRow
namespace Go.Proofs.YtpibehfmbmincaaGreatDoor
set_option linter.unusedVariables false
open Go.ChangeShapes Go.WideShapes Go.ChangeAt Go.RowKit

/-- One block that was made. -/
structure Mem1 (w : World) (A : Array Value) (x : World) : Prop where
  a : ∀ i, x.cell? ⟨w.heap.size, i, none⟩ = A[i]?
  l : w.heap.size < x.heap.size
  bl : Below w.heap.size w x
  bk : ∃ t, x.heap[w.heap.size]? = some (.cells A t (0, 0))
theorem mem1_new (w : World) (A : Array Value) (tA : TypeId) : Mem1 w A (w.alloc (.cells A tA)) := ⟨fun i => new_cell w A tA i, by simp, (Below.refl _ w).alloc (Nat.le_refl _) _, ⟨tA, by show (w.heap.push _)[w.heap.size]? = _; simp⟩⟩
theorem Mem1.next {w : World} {A : Array Value} {x y : World} (h : Mem1 w A x) (hB : Below x.heap.size x y) : Mem1 w A y :=
  ⟨fun i => (hB.cell (p := ⟨w.heap.size, i, none⟩) h.l).trans (h.a i), Nat.lt_of_lt_of_le h.l hB.size, h.bl.trans (hB.mono h.bl.size), h.bk.imp fun t ht => (hB.block _ h.l).trans ht⟩
theorem Mem1.alloc {w : World} {A : Array Value} {x : World} (h : Mem1 w A x) (o : Obj) : Mem1 w A (x.alloc o) := h.next ((Below.refl _ x).alloc (Nat.le_refl _) o)
theorem wpQuiet_load_at {P : Program} {C : World → Prop} {ops : Array Oper} {rest : List Oper} {o : Oper} {a : Act} {Q : Act → Prop} (hw : Region.wanted o (yielded ops a.tmps) = true) (ty : TypeId) (x : Operand) (ho : o.op = .load ty x)
    (p : Addr) (hx : a.eval x = .pointer (some p)) (v : Value) (hr : ∀ w, C w → (loadVar ty p).run P w = .ok v w)
    (h : wpQuiet P ops C Q rest (a.put o.dst v)) : wpQuiet P ops C Q (o :: rest) a := by
  refine Go.BigFrame.wpQuiet_want hw fun K hK => ⟨v, fun w hw => ?_, hK _ h⟩
  unfold Oper.quietAt execOp
  simp only [ho, hx, Instr.loadAt, Instr.sureAddr, Sem.run_bind, Sem.run_pure, Result.andThen_ok, hr w hw]
  exact ⟨rfl, rfl⟩
theorem wpQuiet_load_row {P : Program} {C : World → Prop} {ops : Array Oper} {rest : List Oper} {o : Oper} {a : Act} {Q : Act → Prop} (hgd : o.guard = none) (ty : TypeId) (x : Operand) (ho : o.op = .load ty x)
    (g : Nat) (hx : a.eval x = .pointer (some ⟨g, 0, none⟩)) (t : TypeId) (cs : Array Value) (fr : Nat × Nat) (d : TypeDesc) (hg : ∀ w, C w → w.heap[g]? = some (.cells cs t fr))
    (hu : P.underlying ty = some d) (hd : (match d with | .struct _ | .array _ _ => true | _ => false) = true) (hi : (P.info? ty).map (·.size) = some cs.size)
    (h : wpQuiet P ops C Q rest (a.put o.dst (.agg cs))) : wpQuiet P ops C Q (o :: rest) a := by
  refine Go.BigFrame.wpQuiet_want (by simp [Region.wanted, hgd]) fun K hK => ⟨.agg cs, fun w hw => ?_, hK _ h⟩
  unfold Oper.quietAt execOp
  simp only [ho, hx, Instr.loadAt, Instr.sureAddr, Sem.run_bind, Sem.run_pure, Result.andThen_ok, run_loadVar_row w g t ty cs fr d (hg w hw) hu hd hi]
  exact ⟨rfl, rfl⟩
theorem byte_text (w : World) (k : Nat) : (convert 28 9 (.slice (some ⟨w.heap.size, 0, none⟩) 1 1)).run Tryz.prog (w.alloc (.cells #[.int .u8 (48 + (k : Int) % 10)] 5)) = .ok (.string (mkB [UInt8.ofNat (48 + k % 10)])) (w.alloc (.cells #[.int .u8 (48 + (k : Int) % 10)] 5)) :=
  Lib.run_convert_whole (P := Tryz.prog) _ 28 5 9 Tryz.underlying28 Tryz.underlying5 Tryz.underlying9 w.heap.size 0 (mkB [UInt8.ofNat (48 + k % 10)]) (fun i hi => by
    have h0 : i = 0 := by rw [mkB_size] at hi; simpa using hi
    subst h0
    rw [new_cell]
    have : (UInt8.ofNat (48 + k % 10)).toNat = 48 + k % 10 := by rw [UInt8.toNat_ofNat']; omega
    show some (Value.int .u8 (48 + (k : Int) % 10)) = some (Value.int .u8 ((UInt8.ofNat (48 + k % 10)).toNat : Int))
    rw [this]
    rfl) 1
theorem dig_four {n : Nat} (h : n ≤ 9999) : (Lib.decDigits n).length ≤ 4 := by
  by_cases a : n < 10
  · rw [Lib.decDigits_one a]; exact (by decide : 1 ≤ 4)
  rw [dec_step n a, List.length_append]
  by_cases b : n / 10 < 10
  · rw [Lib.decDigits_one b]; exact (by decide : 2 ≤ 4)
  rw [dec_step _ b, List.length_append]
  by_cases c : n / 10 / 10 < 10
  · rw [Lib.decDigits_one c]; exact (by decide : 3 ≤ 4)
  rw [dec_step _ c, List.length_append, Lib.decDigits_one (by omega)]; exact Nat.le_refl 4
theorem Dig.small {n x : Nat} {s : ByteArray} (H : Dig n x s) (h : n ≤ 9999) : s.size ≤ 4 := by
  have h4 := dig_four h
  have hs : s.size = s.data.toList.length := (Array.length_toList).symm
  rcases H with ⟨_, h1⟩ | ⟨_, h1⟩
  · rw [hs, h1]; exact h4
  · rw [← h1, List.length_append] at h4
    omega
theorem one_size (u : UInt8) : (mkB [u]).size = 1 := mkB_size _
theorem mem1_of {w x y : World} {A : Array Value} {tA : TypeId} (hx : x = w.alloc (.cells A tA)) (hB : Below x.heap.size x y) : Mem1 w A y := by
  subst hx
  exact (mem1_new w A tA).next hB

set_option maxRecDepth 100000 in
set_option maxHeartbeats 2000000 in
theorem lev_great (os arch tag : ByteArray) (cgo : Bool) (lv more n : Int) (p : Option Addr) (m cp : Nat) (w : World)
    (HA : Hid (∀ w1, Below w.heap.size w w1 → Calls Tryz.prog 6 #[] w1 fun e w' => e = .returned (.bool true) ∧ Below w1.heap.size w1 w'))
    (HG : Hid (∀ w1, Below w.heap.size w w1 → Calls Tryz.prog 7 #[.agg #[.string os, .string arch, .bool cgo, .int .i64 lv, .slice p m cp]] w1 fun e w' => e = .returned (.bool true) ∧ Below w1.heap.size w1 w')) :
    Calls Tryz.prog 3 #[.agg #[.string os, .string arch, .bool cgo, .int .i64 lv, .slice p m cp], .int .i64 more, .string tag, .int .i64 n] w (LawEnd w) := by
  have M0 := mem1_new w #[.string os, .string arch, .bool cgo, .int .i64 lv, .slice p m cp] 24
  go_enter Tryz.func3, Tryz.ntmps3
  go_wp2_with fail
  refine (HA.out _ M0.bl).mono ?_
  rintro e w1 ⟨rfl, hB1⟩
  have M1 := M0.next hB1
  clear hB1 M0
  have M1a0 : w1.cell? ⟨w.heap.size, 0, none⟩ = some (.string os) := M1.a 0
  have M1a1 : w1.cell? ⟨w.heap.size, 1, none⟩ = some (.string arch) := M1.a 1
  have M1a2 : w1.cell? ⟨w.heap.size, 2, none⟩ = some (.bool cgo) := M1.a 2
  have M1a3 : w1.cell? ⟨w.heap.size, 3, none⟩ = some (.int .i64 lv) := M1.a 3
  have M1a4 : w1.cell? ⟨w.heap.size, 4, none⟩ = some (.slice p m cp) := M1.a 4
  have M1l := M1.l
  go_wp2_with fail
  refine (HG.out _ M1.bl).mono ?_
  rintro e w2 ⟨rfl, hB2⟩
  have M2 := M1.next hB2
  clear hB2
  have M2a0 : w2.cell? ⟨w.heap.size, 0, none⟩ = some (.string os) := M2.a 0
  have M2a1 : w2.cell? ⟨w.heap.size, 1, none⟩ = some (.string arch) := M2.a 1
  have M2a2 : w2.cell? ⟨w.heap.size, 2, none⟩ = some (.bool cgo) := M2.a 2
  have M2a3 : w2.cell? ⟨w.heap.size, 3, none⟩ = some (.int .i64 lv) := M2.a 3
  have M2a4 : w2.cell? ⟨w.heap.size, 4, none⟩ = some (.slice p m cp) := M2.a 4
  have M2l := M2.l
  go_wp2_with fail
  go_ret
  exact ⟨rfl, M2.bl⟩
set_option maxRecDepth 100000 in
set_option maxHeartbeats 2000000 in
theorem lev_long (os arch tag : ByteArray) (cgo : Bool) (lv more n : Int) (p : Option Addr) (m cp : Nat) (w : World)
    (HA : Hid (∀ w1, Below w.heap.size w w1 → Calls Tryz.prog 6 #[] w1 fun e w' => e = .returned (.bool true) ∧ Below w1.heap.size w1 w'))
    (HG : Hid (∀ w1, Below w.heap.size w w1 → Calls Tryz.prog 7 #[.agg #[.string os, .string arch, .bool cgo, .int .i64 lv, .slice p m cp]] w1 fun e w' => e = .returned (.bool false) ∧ Below w1.heap.size w1 w'))
    (h5 : (512 : Int) < (tag.size : Int)) :
    Calls Tryz.prog 3 #[.agg #[.string os, .string arch, .bool cgo, .int .i64 lv, .slice p m cp], .int .i64 more, .string tag, .int .i64 n] w (LawEnd w) := by
  have M0 := mem1_new w #[.string os, .string arch, .bool cgo, .int .i64 lv, .slice p m cp] 24
  go_enter Tryz.func3, Tryz.ntmps3
  go_wp2_with fail
  refine (HA.out _ M0.bl).mono ?_
  rintro e w1 ⟨rfl, hB1⟩
  have M1 := M0.next hB1
  clear hB1 M0
  have M1a0 : w1.cell? ⟨w.heap.size, 0, none⟩ = some (.string os) := M1.a 0
  have M1a1 : w1.cell? ⟨w.heap.size, 1, none⟩ = some (.string arch) := M1.a 1
  have M1a2 : w1.cell? ⟨w.heap.size, 2, none⟩ = some (.bool cgo) := M1.a 2
  have M1a3 : w1.cell? ⟨w.heap.size, 3, none⟩ = some (.int .i64 lv) := M1.a 3
  have M1a4 : w1.cell? ⟨w.heap.size, 4, none⟩ = some (.slice p m cp) := M1.a 4
  have M1l := M1.l
  go_wp2_with fail
  refine (HG.out _ M1.bl).mono ?_
  rintro e w2 ⟨rfl, hB2⟩
  have M2 := M1.next hB2
  clear hB2
  have M2a0 : w2.cell? ⟨w.heap.size, 0, none⟩ = some (.string os) := M2.a 0
  have M2a1 : w2.cell? ⟨w.heap.size, 1, none⟩ = some (.string arch) := M2.a 1
  have M2a2 : w2.cell? ⟨w.heap.size, 2, none⟩ = some (.bool cgo) := M2.a 2
  have M2a3 : w2.cell? ⟨w.heap.size, 3, none⟩ = some (.int .i64 lv) := M2.a 3
  have M2a4 : w2.cell? ⟨w.heap.size, 4, none⟩ = some (.slice p m cp) := M2.a 4
  have M2l := M2.l
  go_wp2_with fail
  go_ret
  exact ⟨rfl, M2.bl⟩
set_option maxRecDepth 100000 in
set_option maxHeartbeats 2000000 in
theorem lev_less (os arch tag : ByteArray) (cgo : Bool) (lv more n : Int) (p : Option Addr) (m cp : Nat) (w : World)
    (HA : Hid (∀ w1, Below w.heap.size w w1 → Calls Tryz.prog 6 #[] w1 fun e w' => e = .returned (.bool true) ∧ Below w1.heap.size w1 w'))
    (HG : Hid (∀ w1, Below w.heap.size w w1 → Calls Tryz.prog 7 #[.agg #[.string os, .string arch, .bool cgo, .int .i64 lv, .slice p m cp]] w1 fun e w' => e = .returned (.bool false) ∧ Below w1.heap.size w1 w'))
    (h5 : ¬ (512 : Int) < (tag.size : Int)) (hm : more < lv) :
    Calls Tryz.prog 3 #[.agg #[.string os, .string arch, .bool cgo, .int .i64 lv, .slice p m cp], .int .i64 more, .string tag, .int .i64 n] w (LawEnd w) := by
  have M0 := mem1_new w #[.string os, .string arch, .bool cgo, .int .i64 lv, .slice p m cp] 24
  go_enter Tryz.func3, Tryz.ntmps3
  go_wp2_with fail
  refine (HA.out _ M0.bl).mono ?_
  rintro e w1 ⟨rfl, hB1⟩
  have M1 := M0.next hB1
  clear hB1 M0
  have M1a0 : w1.cell? ⟨w.heap.size, 0, none⟩ = some (.string os) := M1.a 0
  have M1a1 : w1.cell? ⟨w.heap.size, 1, none⟩ = some (.string arch) := M1.a 1
  have M1a2 : w1.cell? ⟨w.heap.size, 2, none⟩ = some (.bool cgo) := M1.a 2
  have M1a3 : w1.cell? ⟨w.heap.size, 3, none⟩ = some (.int .i64 lv) := M1.a 3
  have M1a4 : w1.cell? ⟨w.heap.size, 4, none⟩ = some (.slice p m cp) := M1.a 4
  have M1l := M1.l
  go_wp2_with fail
  refine (HG.out _ M1.bl).mono ?_
  rintro e w2 ⟨rfl, hB2⟩
  have M2 := M1.next hB2
  clear hB2
  have M2a0 : w2.cell? ⟨w.heap.size, 0, none⟩ = some (.string os) := M2.a 0
  have M2a1 : w2.cell? ⟨w.heap.size, 1, none⟩ = some (.string arch) := M2.a 1
  have M2a2 : w2.cell? ⟨w.heap.size, 2, none⟩ = some (.bool cgo) := M2.a 2
  have M2a3 : w2.cell? ⟨w.heap.size, 3, none⟩ = some (.int .i64 lv) := M2.a 3
  have M2a4 : w2.cell? ⟨w.heap.size, 4, none⟩ = some (.slice p m cp) := M2.a 4
  have M2l := M2.l
  go_wp2_with fail
  go_ret
  exact ⟨rfl, M2.bl⟩
set_option maxRecDepth 100000 in
set_option maxHeartbeats 2000000 in
theorem lev_low_true (os arch tag : ByteArray) (cgo : Bool) (lv more n : Int) (p : Option Addr) (m cp : Nat) (w : World)
    (HA : Hid (∀ w1, Below w.heap.size w w1 → Calls Tryz.prog 6 #[] w1 fun e w' => e = .returned (.bool true) ∧ Below w1.heap.size w1 w'))
    (HG : Hid (∀ w1, Below w.heap.size w w1 → Calls Tryz.prog 7 #[.agg #[.string os, .string arch, .bool cgo, .int .i64 lv, .slice p m cp]] w1 fun e w' => e = .returned (.bool false) ∧ Below w1.heap.size w1 w'))
    (h5 : ¬ (512 : Int) < (tag.size : Int)) (hm : ¬ more < lv)
    (HO : Hid (∀ w1, Below w.heap.size w w1 → Calls Tryz.prog 8 #[.agg #[.string os, .string arch, .bool cgo, .int .i64 lv, .slice p m cp], .string tag] w1 fun e w' => e = .returned (.bool true) ∧ Below w1.heap.size w1 w'))
    (HD : Hid (∀ w1, Below w.heap.size w w1 → Calls Tryz.prog 8 #[.agg #[.string os, .string arch, .bool cgo, .int .i64 more, .slice p m cp], .string tag] w1 fun e w' => e = .returned (.bool true) ∧ Below w1.heap.size w1 w'))
    (hn : n < 1) :
    Calls Tryz.prog 3 #[.agg #[.string os, .string arch, .bool cgo, .int .i64 lv, .slice p m cp], .int .i64 more, .string tag, .int .i64 n] w (LawEnd w) := by
  have M0 := mem1_new w #[.string os, .string arch, .bool cgo, .int .i64 lv, .slice p m cp] 24
  go_enter Tryz.func3, Tryz.ntmps3
  go_wp2_with fail
  refine (HA.out _ M0.bl).mono ?_
  rintro e w1 ⟨rfl, hB1⟩
  have M1 := M0.next hB1
  clear hB1 M0
  have M1a0 : w1.cell? ⟨w.heap.size, 0, none⟩ = some (.string os) := M1.a 0
  have M1a1 : w1.cell? ⟨w.heap.size, 1, none⟩ = some (.string arch) := M1.a 1
  have M1a2 : w1.cell? ⟨w.heap.size, 2, none⟩ = some (.bool cgo) := M1.a 2
  have M1a3 : w1.cell? ⟨w.heap.size, 3, none⟩ = some (.int .i64 lv) := M1.a 3
  have M1a4 : w1.cell? ⟨w.heap.size, 4, none⟩ = some (.slice p m cp) := M1.a 4
  have M1l := M1.l
  go_wp2_with fail
  refine (HG.out _ M1.bl).mono ?_
  rintro e w2 ⟨rfl, hB2⟩
  have M2 := M1.next hB2
  clear hB2
  have M2a0 : w2.cell? ⟨w.heap.size, 0, none⟩ = some (.string os) := M2.a 0
  have M2a1 : w2.cell? ⟨w.heap.size, 1, none⟩ = some (.string arch) := M2.a 1
  have M2a2 : w2.cell? ⟨w.heap.size, 2, none⟩ = some (.bool cgo) := M2.a 2
  have M2a3 : w2.cell? ⟨w.heap.size, 3, none⟩ = some (.int .i64 lv) := M2.a 3
  have M2a4 : w2.cell? ⟨w.heap.size, 4, none⟩ = some (.slice p m cp) := M2.a 4
  have M2l := M2.l
  go_wp2_with fail
  have M3 := M2.alloc (Obj.cells #[.string os, .string arch, .bool cgo, .int .i64 more, .slice p m cp] 24)
  have N3 := mem1_new w2 #[.string os, .string arch, .bool cgo, .int .i64 more, .slice p m cp] 24
  refine (HO.out _ M3.bl).mono ?_
  rintro e w3 ⟨rfl, hB3⟩
  have M4 := M3.next hB3
  have N4 := N3.next hB3
  clear hB3 M3 N3
  have M4a0 : w3.cell? ⟨w.heap.size, 0, none⟩ = some (.string os) := M4.a 0
  have M4a1 : w3.cell? ⟨w.heap.size, 1, none⟩ = some (.string arch) := M4.a 1
  have M4a2 : w3.cell? ⟨w.heap.size, 2, none⟩ = some (.bool cgo) := M4.a 2
  have M4a3 : w3.cell? ⟨w.heap.size, 3, none⟩ = some (.int .i64 lv) := M4.a 3
  have M4a4 : w3.cell? ⟨w.heap.size, 4, none⟩ = some (.slice p m cp) := M4.a 4
  have M4l := M4.l
  have N4a0 : w3.cell? ⟨w2.heap.size, 0, none⟩ = some (.string os) := N4.a 0
  have N4a1 : w3.cell? ⟨w2.heap.size, 1, none⟩ = some (.string arch) := N4.a 1
  have N4a2 : w3.cell? ⟨w2.heap.size, 2, none⟩ = some (.bool cgo) := N4.a 2
  have N4a3 : w3.cell? ⟨w2.heap.size, 3, none⟩ = some (.int .i64 more) := N4.a 3
  have N4a4 : w3.cell? ⟨w2.heap.size, 4, none⟩ = some (.slice p m cp) := N4.a 4
  have N4l := N4.l
  go_wp2_with fail
  refine (HD.out _ M4.bl).mono ?_
  rintro e w4 ⟨rfl, hB4⟩
  have M5 := M4.next hB4
  clear hB4
  have M5a0 : w4.cell? ⟨w.heap.size, 0, none⟩ = some (.string os) := M5.a 0
  have M5a1 : w4.cell? ⟨w.heap.size, 1, none⟩ = some (.string arch) := M5.a 1
  have M5a2 : w4.cell? ⟨w.heap.size, 2, none⟩ = some (.bool cgo) := M5.a 2
  have M5a3 : w4.cell? ⟨w.heap.size, 3, none⟩ = some (.int .i64 lv) := M5.a 3
  have M5a4 : w4.cell? ⟨w.heap.size, 4, none⟩ = some (.slice p m cp) := M5.a 4
  have M5l := M5.l
  go_wp2_with fail
  go_ret
  exact ⟨rfl, M5.bl⟩
set_option maxRecDepth 100000 in
set_option maxHeartbeats 2000000 in
theorem lev_high_true (os arch tag : ByteArray) (cgo : Bool) (lv more n : Int) (p : Option Addr) (m cp : Nat) (w : World)
    (HA : Hid (∀ w1, Below w.heap.size w w1 → Calls Tryz.prog 6 #[] w1 fun e w' => e = .returned (.bool true) ∧ Below w1.heap.size w1 w'))
    (HG : Hid (∀ w1, Below w.heap.size w w1 → Calls Tryz.prog 7 #[.agg #[.string os, .string arch, .bool cgo, .int .i64 lv, .slice p m cp]] w1 fun e w' => e = .returned (.bool false) ∧ Below w1.heap.size w1 w'))
    (h5 : ¬ (512 : Int) < (tag.size : Int)) (hm : ¬ more < lv)
    (HO : Hid (∀ w1, Below w.heap.size w w1 → Calls Tryz.prog 8 #[.agg #[.string os, .string arch, .bool cgo, .int .i64 lv, .slice p m cp], .string tag] w1 fun e w' => e = .returned (.bool true) ∧ Below w1.heap.size w1 w'))
    (HD : Hid (∀ w1, Below w.heap.size w w1 → Calls Tryz.prog 8 #[.agg #[.string os, .string arch, .bool cgo, .int .i64 more, .slice p m cp], .string tag] w1 fun e w' => e = .returned (.bool true) ∧ Below w1.heap.size w1 w'))
    (hn : ¬ n < 1) (hn2 : 9999 < n) :
    Calls Tryz.prog 3 #[.agg #[.string os, .string arch, .bool cgo, .int .i64 lv, .slice p m cp], .int .i64 more, .string tag, .int .i64 n] w (LawEnd w) := by
  have M0 := mem1_new w #[.string os, .string arch, .bool cgo, .int .i64 lv, .slice p m cp] 24
  go_enter Tryz.func3, Tryz.ntmps3
  go_wp2_with fail
  refine (HA.out _ M0.bl).mono ?_
  rintro e w1 ⟨rfl, hB1⟩
  have M1 := M0.next hB1
  clear hB1 M0
  have M1a0 : w1.cell? ⟨w.heap.size, 0, none⟩ = some (.string os) := M1.a 0
  have M1a1 : w1.cell? ⟨w.heap.size, 1, none⟩ = some (.string arch) := M1.a 1
  have M1a2 : w1.cell? ⟨w.heap.size, 2, none⟩ = some (.bool cgo) := M1.a 2
  have M1a3 : w1.cell? ⟨w.heap.size, 3, none⟩ = some (.int .i64 lv) := M1.a 3
  have M1a4 : w1.cell? ⟨w.heap.size, 4, none⟩ = some (.slice p m cp) := M1.a 4
  have M1l := M1.l
  go_wp2_with fail
  refine (HG.out _ M1.bl).mono ?_
  rintro e w2 ⟨rfl, hB2⟩
  have M2 := M1.next hB2
  clear hB2
  have M2a0 : w2.cell? ⟨w.heap.size, 0, none⟩ = some (.string os) := M2.a 0
  have M2a1 : w2.cell? ⟨w.heap.size, 1, none⟩ = some (.string arch) := M2.a 1
  have M2a2 : w2.cell? ⟨w.heap.size, 2, none⟩ = some (.bool cgo) := M2.a 2
  have M2a3 : w2.cell? ⟨w.heap.size, 3, none⟩ = some (.int .i64 lv) := M2.a 3
  have M2a4 : w2.cell? ⟨w.heap.size, 4, none⟩ = some (.slice p m cp) := M2.a 4
  have M2l := M2.l
  go_wp2_with fail
  have M3 := M2.alloc (Obj.cells #[.string os, .string arch, .bool cgo, .int .i64 more, .slice p m cp] 24)
  have N3 := mem1_new w2 #[.string os, .string arch, .bool cgo, .int .i64 more, .slice p m cp] 24
  refine (HO.out _ M3.bl).mono ?_
  rintro e w3 ⟨rfl, hB3⟩
  have M4 := M3.next hB3
  have N4 := N3.next hB3
  clear hB3 M3 N3
  have M4a0 : w3.cell? ⟨w.heap.size, 0, none⟩ = some (.string os) := M4.a 0
  have M4a1 : w3.cell? ⟨w.heap.size, 1, none⟩ = some (.string arch) := M4.a 1
  have M4a2 : w3.cell? ⟨w.heap.size, 2, none⟩ = some (.bool cgo) := M4.a 2
  have M4a3 : w3.cell? ⟨w.heap.size, 3, none⟩ = some (.int .i64 lv) := M4.a 3
  have M4a4 : w3.cell? ⟨w.heap.size, 4, none⟩ = some (.slice p m cp) := M4.a 4
  have M4l := M4.l
  have N4a0 : w3.cell? ⟨w2.heap.size, 0, none⟩ = some (.string os) := N4.a 0
  have N4a1 : w3.cell? ⟨w2.heap.size, 1, none⟩ = some (.string arch) := N4.a 1
  have N4a2 : w3.cell? ⟨w2.heap.size, 2, none⟩ = some (.bool cgo) := N4.a 2
  have N4a3 : w3.cell? ⟨w2.heap.size, 3, none⟩ = some (.int .i64 more) := N4.a 3
  have N4a4 : w3.cell? ⟨w2.heap.size, 4, none⟩ = some (.slice p m cp) := N4.a 4
  have N4l := N4.l
  go_wp2_with fail
  refine (HD.out _ M4.bl).mono ?_
  rintro e w4 ⟨rfl, hB4⟩
  have M5 := M4.next hB4
  clear hB4
  have M5a0 : w4.cell? ⟨w.heap.size, 0, none⟩ = some (.string os) := M5.a 0
  have M5a1 : w4.cell? ⟨w.heap.size, 1, none⟩ = some (.string arch) := M5.a 1
  have M5a2 : w4.cell? ⟨w.heap.size, 2, none⟩ = some (.bool cgo) := M5.a 2
  have M5a3 : w4.cell? ⟨w.heap.size, 3, none⟩ = some (.int .i64 lv) := M5.a 3
  have M5a4 : w4.cell? ⟨w.heap.size, 4, none⟩ = some (.slice p m cp) := M5.a 4
  have M5l := M5.l
  go_wp2_with fail
  go_ret
  exact ⟨rfl, M5.bl⟩
set_option maxRecDepth 100000 in
set_option maxHeartbeats 2000000 in
theorem lev_main_true (os arch tag : ByteArray) (cgo : Bool) (lv more n : Int) (p : Option Addr) (m cp : Nat) (w : World)
    (HA : Hid (∀ w1, Below w.heap.size w w1 → Calls Tryz.prog 6 #[] w1 fun e w' => e = .returned (.bool true) ∧ Below w1.heap.size w1 w'))
    (HG : Hid (∀ w1, Below w.heap.size w w1 → Calls Tryz.prog 7 #[.agg #[.string os, .string arch, .bool cgo, .int .i64 lv, .slice p m cp]] w1 fun e w' => e = .returned (.bool false) ∧ Below w1.heap.size w1 w'))
    (N : Nat) (hN : n = (N : Int)) (h1 : 0 < N) (h2 : N ≤ 9999) (h5 : ¬ (512 : Int) < (tag.size : Int)) (hm : ¬ more < lv)
    (HO : Hid (∀ w1, Below w.heap.size w w1 → Calls Tryz.prog 8 #[.agg #[.string os, .string arch, .bool cgo, .int .i64 lv, .slice p m cp], .string tag] w1 fun e w' => e = .returned (.bool true) ∧ Below w1.heap.size w1 w'))
    (HD : Hid (∀ w1, Below w.heap.size w w1 → Calls Tryz.prog 8 #[.agg #[.string os, .string arch, .bool cgo, .int .i64 more, .slice p m cp], .string tag] w1 fun e w' => e = .returned (.bool true) ∧ Below w1.heap.size w1 w'))
    (R : ByteArray) (B I : Bool) (hR : ∀ s, Dig N 0 s → (⟨#[103, 111, 49, 46]⟩ : ByteArray) ++ s = R)
    (HR : Hid (∀ w1, Below w.heap.size w w1 → Calls Tryz.prog 8 #[.agg #[.string os, .string arch, .bool cgo, .int .i64 lv, .slice p m cp], .string R] w1 fun e w' => e = .returned (.bool B) ∧ Below w1.heap.size w1 w'))
    (HI : Hid (∀ w1, Below w.heap.size w w1 → Calls Tryz.prog 9 #[.slice p m cp, .string R] w1 fun e w' => e = .returned (.bool I) ∧ Below w1.heap.size w1 w'))
    (hQ : (decide ((N : Int) ≤ lv) = true ∧ B = true) ∨ (decide ((N : Int) ≤ lv) = false ∧ (os.toList == R.toList) = true ∧ B = true) ∨ (decide ((N : Int) ≤ lv) = false ∧ (os.toList == R.toList) = false ∧ (arch.toList == R.toList) = true ∧ B = true) ∨ (decide ((N : Int) ≤ lv) = false ∧ (os.toList == R.toList) = false ∧ (arch.toList == R.toList) = false ∧ B = I)) :
    Calls Tryz.prog 3 #[.agg #[.string os, .string arch, .bool cgo, .int .i64 lv, .slice p m cp], .int .i64 more, .string tag, .int .i64 n] w (LawEnd w) := by
  subst hN
  have hn1 : ¬ (N : Int) < 1 := by omega
  have hn2 : ¬ (9999 : Int) < (N : Int) := by omega
  have M0 := mem1_new w #[.string os, .string arch, .bool cgo, .int .i64 lv, .slice p m cp] 24
  go_enter Tryz.func3, Tryz.ntmps3
  go_wp2_with fail
  refine (HA.out _ M0.bl).mono ?_
  rintro e w1 ⟨rfl, hB1⟩
  have M1 := M0.next hB1
  clear hB1 M0
  have M1a0 : w1.cell? ⟨w.heap.size, 0, none⟩ = some (.string os) := M1.a 0
  have M1a1 : w1.cell? ⟨w.heap.size, 1, none⟩ = some (.string arch) := M1.a 1
  have M1a2 : w1.cell? ⟨w.heap.size, 2, none⟩ = some (.bool cgo) := M1.a 2
  have M1a3 : w1.cell? ⟨w.heap.size, 3, none⟩ = some (.int .i64 lv) := M1.a 3
  have M1a4 : w1.cell? ⟨w.heap.size, 4, none⟩ = some (.slice p m cp) := M1.a 4
  have M1l := M1.l
  go_wp2_with fail
  refine (HG.out _ M1.bl).mono ?_
  rintro e w2 ⟨rfl, hB2⟩
  have M2 := M1.next hB2
  clear hB2
  have M2a0 : w2.cell? ⟨w.heap.size, 0, none⟩ = some (.string os) := M2.a 0
  have M2a1 : w2.cell? ⟨w.heap.size, 1, none⟩ = some (.string arch) := M2.a 1
  have M2a2 : w2.cell? ⟨w.heap.size, 2, none⟩ = some (.bool cgo) := M2.a 2
  have M2a3 : w2.cell? ⟨w.heap.size, 3, none⟩ = some (.int .i64 lv) := M2.a 3
  have M2a4 : w2.cell? ⟨w.heap.size, 4, none⟩ = some (.slice p m cp) := M2.a 4
  have M2l := M2.l
  go_wp2_with fail
  have M3 := M2.alloc (Obj.cells #[.string os, .string arch, .bool cgo, .int .i64 more, .slice p m cp] 24)
  have N3 := mem1_new w2 #[.string os, .string arch, .bool cgo, .int .i64 more, .slice p m cp] 24
  refine (HO.out _ M3.bl).mono ?_
  rintro e w3 ⟨rfl, hB3⟩
  have M4 := M3.next hB3
  have N4 := N3.next hB3
  clear hB3 M3 N3
  have M4a0 : w3.cell? ⟨w.heap.size, 0, none⟩ = some (.string os) := M4.a 0
  have M4a1 : w3.cell? ⟨w.heap.size, 1, none⟩ = some (.string arch) := M4.a 1
  have M4a2 : w3.cell? ⟨w.heap.size, 2, none⟩ = some (.bool cgo) := M4.a 2
  have M4a3 : w3.cell? ⟨w.heap.size, 3, none⟩ = some (.int .i64 lv) := M4.a 3
  have M4a4 : w3.cell? ⟨w.heap.size, 4, none⟩ = some (.slice p m cp) := M4.a 4
  have M4l := M4.l
  have N4a0 : w3.cell? ⟨w2.heap.size, 0, none⟩ = some (.string os) := N4.a 0
  have N4a1 : w3.cell? ⟨w2.heap.size, 1, none⟩ = some (.string arch) := N4.a 1
  have N4a2 : w3.cell? ⟨w2.heap.size, 2, none⟩ = some (.bool cgo) := N4.a 2
  have N4a3 : w3.cell? ⟨w2.heap.size, 3, none⟩ = some (.int .i64 more) := N4.a 3
  have N4a4 : w3.cell? ⟨w2.heap.size, 4, none⟩ = some (.slice p m cp) := N4.a 4
  have N4l := N4.l
  go_wp2_with fail
  refine (HD.out _ M4.bl).mono ?_
  rintro e w4 ⟨rfl, hB4⟩
  have M5 := M4.next hB4
  clear hB4
  have M5a0 : w4.cell? ⟨w.heap.size, 0, none⟩ = some (.string os) := M5.a 0
  have M5a1 : w4.cell? ⟨w.heap.size, 1, none⟩ = some (.string arch) := M5.a 1
  have M5a2 : w4.cell? ⟨w.heap.size, 2, none⟩ = some (.bool cgo) := M5.a 2
  have M5a3 : w4.cell? ⟨w.heap.size, 3, none⟩ = some (.int .i64 lv) := M5.a 3
  have M5a4 : w4.cell? ⟨w.heap.size, 4, none⟩ = some (.slice p m cp) := M5.a 4
  have M5l := M5.l
  go_wp2_with fail
  go_loopg [10, 11] N (fun g sv xv wr => ∃ s : ByteArray, xv = .int .i64 (g : Int) ∧ sv = .string s ∧ Dig N g s ∧ g ≤ 9999 ∧ Mem1 w #[.string os, .string arch, .bool cgo, .int .i64 lv, .slice p m cp] wr)
  case atStart => exact ⟨⟨#[]⟩, rfl, rfl, Dig.start h1, h2, M5⟩
  case round =>
    obtain ⟨s, rfl, rfl, hD, hg, hM⟩ := hrel
    by_cases h0 : 0 < gk
    · have h0I : (0 : Int) < (gk : Int) := by omega
      have hcv := byte_text wr gk
      have hs1 := one_size (UInt8.ofNat (48 + gk % 10))
      have hs4 := hD.small h2
      have hst := Lib.hid (hD.step h0)
      obtain ⟨bt, hbt⟩ : ∃ bt, bt = mkB [UInt8.ofNat (48 + gk % 10)] := ⟨_, rfl⟩
      rw [← hbt] at hcv hs1 hst
      clear hbt hD
      go_wp2_with fail
      go_roundg (gk / 10)
      case measure => omega
      case rel => exact ⟨_, by go_num, rfl, hst.out, by omega, hM.alloc _⟩
    · have h00 : gk = 0 := by omega
      subst h00
      have hRR := hR s hD
      have hs4 := hD.small h2
      clear hR
      clear h0 hD
      obtain ⟨tk, hbk⟩ := hM.bk
      have HL := Lib.hid (fun w1 (h1 : Below wr.heap.size wr w1) => (h1.block _ hM.l).trans hbk)
      have HRR := Lib.hid (fun w1 (h1 : Below wr.heap.size wr w1) => (HR.out w1 (hM.bl.trans (h1.mono hM.bl.size))).mono (fun e w2 hh => (⟨hh.1, h1.trans (hh.2.mono h1.size)⟩ : e = .returned (.bool B) ∧ Below wr.heap.size wr w2)))
      have HII := Lib.hid (fun w1 (h1 : Below wr.heap.size wr w1) => (HI.out w1 (hM.bl.trans (h1.mono hM.bl.size))).mono (fun e w2 hh => (⟨hh.1, h1.trans (hh.2.mono h1.size)⟩ : e = .returned (.bool I) ∧ Below wr.heap.size wr w2)))
      have hc : ∀ i w1, Below wr.heap.size wr w1 → w1.cell? ⟨w.heap.size, i, none⟩ = #[.string os, .string arch, .bool cgo, .int .i64 lv, .slice p m cp][i]? := fun i w1 h1 => (h1.cell (p := ⟨w.heap.size, i, none⟩) hM.l).trans (hM.a i)
      have HL0 := Lib.hid (fun w1 (h1 : Below wr.heap.size wr w1) => (by have h := hc 0 w1 h1; simp at h; simp [go_sem, h] : (loadVar 9 ⟨w.heap.size, 0, none⟩).run Tryz.prog w1 = .ok (.string os) w1))
      have HL1 := Lib.hid (fun w1 (h1 : Below wr.heap.size wr w1) => (by have h := hc 1 w1 h1; simp at h; simp [go_sem, h] : (loadVar 9 ⟨w.heap.size, 1, none⟩).run Tryz.prog w1 = .ok (.string arch) w1))
      have HL3 := Lib.hid (fun w1 (h1 : Below wr.heap.size wr w1) => (by have h := hc 3 w1 h1; simp at h; simp [go_sem, h] : (loadVar 3 ⟨w.heap.size, 3, none⟩).run Tryz.prog w1 = .ok (.int .i64 lv) w1))
      have HL4 := Lib.hid (fun w1 (h1 : Below wr.heap.size wr w1) => (by have h := hc 4 w1 h1; simp at h; simp [go_sem, h] : (loadVar 22 ⟨w.heap.size, 4, none⟩).run Tryz.prog w1 = .ok (.slice p m cp) w1))
      have hb := Lib.hid hM.bl
      clear hbk hM hc
      have H24 := Lib.hid (by kernel_rfl : (Tryz.prog.info? 24).map (·.size) = some (#[.string os, .string arch, .bool cgo, .int .i64 lv, .slice p m cp] : Array Value).size)
      clear H24
      go_wp2_with fail
      rcases hQ with ⟨hd, rfl⟩ | ⟨hd, hq1, rfl⟩ | ⟨hd, hq1, hq2, rfl⟩ | ⟨hd, hq1, hq2, rfl⟩
      · refine wp_region_class (Below wr.heap.size wr) (by kernel_rfl) (by kernel_rfl) (Below.refl _ _).drew ?_
        refine wpQuiet_load_row rfl 24 (.tmp 4) rfl w.heap.size rfl tk #[.string os, .string arch, .bool cgo, .int .i64 lv, .slice p m cp] (0, 0) _ HL.out Tryz.underlying24 rfl (by kernel_rfl) ?_
        simp only [Act.put, List.setIfInBounds_toArray, List.set_cons_succ, List.set_cons_zero]
        repeat (go_big_quiet_step (first | (intro hh; with_reducible exact HRR.out _ hh) | (intro hh; with_reducible exact HII.out _ hh) | (intro _; rfl)))
        refine wpQuiet_load_at rfl 3 (.tmp 64) rfl ⟨w.heap.size, 3, none⟩ rfl (.int .i64 lv) HL3.out ?_
        simp only [Act.put, List.setIfInBounds_toArray, List.set_cons_succ, List.set_cons_zero]
        repeat (go_big_quiet_step (first | (intro hh; with_reducible exact HRR.out _ hh) | (intro hh; with_reducible exact HII.out _ hh) | (intro _; rfl)))
        refine wpQuiet_nil ?_
        intro wq hBq
        have hb7 := hb.out.trans (hBq.mono hb.out.size)
        clear hBq
        go_wp2_with fail
        go_ret
        exact ⟨rfl, hb7⟩
      · refine wp_region_class (Below wr.heap.size wr) (by kernel_rfl) (by kernel_rfl) (Below.refl _ _).drew ?_
        refine wpQuiet_load_row rfl 24 (.tmp 4) rfl w.heap.size rfl tk #[.string os, .string arch, .bool cgo, .int .i64 lv, .slice p m cp] (0, 0) _ HL.out Tryz.underlying24 rfl (by kernel_rfl) ?_
        simp only [Act.put, List.setIfInBounds_toArray, List.set_cons_succ, List.set_cons_zero]
        repeat (go_big_quiet_step (first | (intro hh; with_reducible exact HRR.out _ hh) | (intro hh; with_reducible exact HII.out _ hh) | (intro _; rfl)))
        refine wpQuiet_load_at rfl 3 (.tmp 64) rfl ⟨w.heap.size, 3, none⟩ rfl (.int .i64 lv) HL3.out ?_
        simp only [Act.put, List.setIfInBounds_toArray, List.set_cons_succ, List.set_cons_zero]
        repeat (go_big_quiet_step (first | (intro hh; with_reducible exact HRR.out _ hh) | (intro hh; with_reducible exact HII.out _ hh) | (intro _; rfl)))
        refine wpQuiet_load_at rfl 9 (.tmp 68) rfl ⟨w.heap.size, 0, none⟩ rfl (.string os) HL0.out ?_
        simp only [Act.put, List.setIfInBounds_toArray, List.set_cons_succ, List.set_cons_zero]
        repeat (go_big_quiet_step (first | (intro hh; with_reducible exact HRR.out _ hh) | (intro hh; with_reducible exact HII.out _ hh) | (intro _; rfl)))
        refine wpQuiet_nil ?_
        intro wq hBq
        have hb7 := hb.out.trans (hBq.mono hb.out.size)
        clear hBq
        go_wp2_with fail
        go_ret
        exact ⟨rfl, hb7⟩
      · refine wp_region_class (Below wr.heap.size wr) (by kernel_rfl) (by kernel_rfl) (Below.refl _ _).drew ?_
        refine wpQuiet_load_row rfl 24 (.tmp 4) rfl w.heap.size rfl tk #[.string os, .string arch, .bool cgo, .int .i64 lv, .slice p m cp] (0, 0) _ HL.out Tryz.underlying24 rfl (by kernel_rfl) ?_
        simp only [Act.put, List.setIfInBounds_toArray, List.set_cons_succ, List.set_cons_zero]
        repeat (go_big_quiet_step (first | (intro hh; with_reducible exact HRR.out _ hh) | (intro hh; with_reducible exact HII.out _ hh) | (intro _; rfl)))
        refine wpQuiet_load_at rfl 3 (.tmp 64) rfl ⟨w.heap.size, 3, none⟩ rfl (.int .i64 lv) HL3.out ?_
        simp only [Act.put, List.setIfInBounds_toArray, List.set_cons_succ, List.set_cons_zero]
        repeat (go_big_quiet_step (first | (intro hh; with_reducible exact HRR.out _ hh) | (intro hh; with_reducible exact HII.out _ hh) | (intro _; rfl)))
        refine wpQuiet_load_at rfl 9 (.tmp 68) rfl ⟨w.heap.size, 0, none⟩ rfl (.string os) HL0.out ?_
        simp only [Act.put, List.setIfInBounds_toArray, List.set_cons_succ, List.set_cons_zero]
        repeat (go_big_quiet_step (first | (intro hh; with_reducible exact HRR.out _ hh) | (intro hh; with_reducible exact HII.out _ hh) | (intro _; rfl)))
        refine wpQuiet_load_at rfl 9 (.tmp 74) rfl ⟨w.heap.size, 1, none⟩ rfl (.string arch) HL1.out ?_
        simp only [Act.put, List.setIfInBounds_toArray, List.set_cons_succ, List.set_cons_zero]
        repeat (go_big_quiet_step (first | (intro hh; with_reducible exact HRR.out _ hh) | (intro hh; with_reducible exact HII.out _ hh) | (intro _; rfl)))
        refine wpQuiet_nil ?_
        intro wq hBq
        have hb7 := hb.out.trans (hBq.mono hb.out.size)
        clear hBq
        go_wp2_with fail
        go_ret
        exact ⟨rfl, hb7⟩
      · refine wp_region_class (Below wr.heap.size wr) (by kernel_rfl) (by kernel_rfl) (Below.refl _ _).drew ?_
        refine wpQuiet_load_row rfl 24 (.tmp 4) rfl w.heap.size rfl tk #[.string os, .string arch, .bool cgo, .int .i64 lv, .slice p m cp] (0, 0) _ HL.out Tryz.underlying24 rfl (by kernel_rfl) ?_
        simp only [Act.put, List.setIfInBounds_toArray, List.set_cons_succ, List.set_cons_zero]
        repeat (go_big_quiet_step (first | (intro hh; with_reducible exact HRR.out _ hh) | (intro hh; with_reducible exact HII.out _ hh) | (intro _; rfl)))
        refine wpQuiet_load_at rfl 3 (.tmp 64) rfl ⟨w.heap.size, 3, none⟩ rfl (.int .i64 lv) HL3.out ?_
        simp only [Act.put, List.setIfInBounds_toArray, List.set_cons_succ, List.set_cons_zero]
        repeat (go_big_quiet_step (first | (intro hh; with_reducible exact HRR.out _ hh) | (intro hh; with_reducible exact HII.out _ hh) | (intro _; rfl)))
        refine wpQuiet_load_at rfl 9 (.tmp 68) rfl ⟨w.heap.size, 0, none⟩ rfl (.string os) HL0.out ?_
        simp only [Act.put, List.setIfInBounds_toArray, List.set_cons_succ, List.set_cons_zero]
        repeat (go_big_quiet_step (first | (intro hh; with_reducible exact HRR.out _ hh) | (intro hh; with_reducible exact HII.out _ hh) | (intro _; rfl)))
        refine wpQuiet_load_at rfl 9 (.tmp 74) rfl ⟨w.heap.size, 1, none⟩ rfl (.string arch) HL1.out ?_
        simp only [Act.put, List.setIfInBounds_toArray, List.set_cons_succ, List.set_cons_zero]
        repeat (go_big_quiet_step (first | (intro hh; with_reducible exact HRR.out _ hh) | (intro hh; with_reducible exact HII.out _ hh) | (intro _; rfl)))
        refine wpQuiet_load_at rfl 22 (.tmp 80) rfl ⟨w.heap.size, 4, none⟩ rfl (.slice p m cp) HL4.out ?_
        simp only [Act.put, List.setIfInBounds_toArray, List.set_cons_succ, List.set_cons_zero]
        repeat (go_big_quiet_step (first | (intro hh; with_reducible exact HRR.out _ hh) | (intro hh; with_reducible exact HII.out _ hh) | (intro _; rfl)))
        refine wpQuiet_nil ?_
        intro wq hBq
        have hb7 := hb.out.trans (hBq.mono hb.out.size)
        clear hBq
        go_wp2_with fail
        go_ret
        exact ⟨rfl, hb7⟩
set_option maxRecDepth 100000 in
set_option maxHeartbeats 2000000 in
theorem lev_low_false (os arch tag : ByteArray) (cgo : Bool) (lv more n : Int) (p : Option Addr) (m cp : Nat) (w : World)
    (HA : Hid (∀ w1, Below w.heap.size w w1 → Calls Tryz.prog 6 #[] w1 fun e w' => e = .returned (.bool true) ∧ Below w1.heap.size w1 w'))
    (HG : Hid (∀ w1, Below w.heap.size w w1 → Calls Tryz.prog 7 #[.agg #[.string os, .string arch, .bool cgo, .int .i64 lv, .slice p m cp]] w1 fun e w' => e = .returned (.bool false) ∧ Below w1.heap.size w1 w'))
    (h5 : ¬ (512 : Int) < (tag.size : Int)) (hm : ¬ more < lv)
    (HO : Hid (∀ w1, Below w.heap.size w w1 → Calls Tryz.prog 8 #[.agg #[.string os, .string arch, .bool cgo, .int .i64 lv, .slice p m cp], .string tag] w1 fun e w' => e = .returned (.bool false) ∧ Below w1.heap.size w1 w'))
    (hn : n < 1) :
    Calls Tryz.prog 3 #[.agg #[.string os, .string arch, .bool cgo, .int .i64 lv, .slice p m cp], .int .i64 more, .string tag, .int .i64 n] w (LawEnd w) := by
  have M0 := mem1_new w #[.string os, .string arch, .bool cgo, .int .i64 lv, .slice p m cp] 24
  go_enter Tryz.func3, Tryz.ntmps3
  go_wp2_with fail
  refine (HA.out _ M0.bl).mono ?_
  rintro e w1 ⟨rfl, hB1⟩
  have M1 := M0.next hB1
  clear hB1 M0
  have M1a0 : w1.cell? ⟨w.heap.size, 0, none⟩ = some (.string os) := M1.a 0
  have M1a1 : w1.cell? ⟨w.heap.size, 1, none⟩ = some (.string arch) := M1.a 1
  have M1a2 : w1.cell? ⟨w.heap.size, 2, none⟩ = some (.bool cgo) := M1.a 2
  have M1a3 : w1.cell? ⟨w.heap.size, 3, none⟩ = some (.int .i64 lv) := M1.a 3
  have M1a4 : w1.cell? ⟨w.heap.size, 4, none⟩ = some (.slice p m cp) := M1.a 4
  have M1l := M1.l
  go_wp2_with fail
  refine (HG.out _ M1.bl).mono ?_
  rintro e w2 ⟨rfl, hB2⟩
  have M2 := M1.next hB2
  clear hB2
  have M2a0 : w2.cell? ⟨w.heap.size, 0, none⟩ = some (.string os) := M2.a 0
  have M2a1 : w2.cell? ⟨w.heap.size, 1, none⟩ = some (.string arch) := M2.a 1
  have M2a2 : w2.cell? ⟨w.heap.size, 2, none⟩ = some (.bool cgo) := M2.a 2
  have M2a3 : w2.cell? ⟨w.heap.size, 3, none⟩ = some (.int .i64 lv) := M2.a 3
  have M2a4 : w2.cell? ⟨w.heap.size, 4, none⟩ = some (.slice p m cp) := M2.a 4
  have M2l := M2.l
  go_wp2_with fail
  have M3 := M2.alloc (Obj.cells #[.string os, .string arch, .bool cgo, .int .i64 more, .slice p m cp] 24)
  have N3 := mem1_new w2 #[.string os, .string arch, .bool cgo, .int .i64 more, .slice p m cp] 24
  refine (HO.out _ M3.bl).mono ?_
  rintro e w3 ⟨rfl, hB3⟩
  have M4 := M3.next hB3
  have N4 := N3.next hB3
  clear hB3 M3 N3
  have M4a0 : w3.cell? ⟨w.heap.size, 0, none⟩ = some (.string os) := M4.a 0
  have M4a1 : w3.cell? ⟨w.heap.size, 1, none⟩ = some (.string arch) := M4.a 1
  have M4a2 : w3.cell? ⟨w.heap.size, 2, none⟩ = some (.bool cgo) := M4.a 2
  have M4a3 : w3.cell? ⟨w.heap.size, 3, none⟩ = some (.int .i64 lv) := M4.a 3
  have M4a4 : w3.cell? ⟨w.heap.size, 4, none⟩ = some (.slice p m cp) := M4.a 4
  have M4l := M4.l
  go_wp2_with fail
  go_ret
  exact ⟨rfl, M4.bl⟩
set_option maxRecDepth 100000 in
set_option maxHeartbeats 2000000 in
theorem lev_high_false (os arch tag : ByteArray) (cgo : Bool) (lv more n : Int) (p : Option Addr) (m cp : Nat) (w : World)
    (HA : Hid (∀ w1, Below w.heap.size w w1 → Calls Tryz.prog 6 #[] w1 fun e w' => e = .returned (.bool true) ∧ Below w1.heap.size w1 w'))
    (HG : Hid (∀ w1, Below w.heap.size w w1 → Calls Tryz.prog 7 #[.agg #[.string os, .string arch, .bool cgo, .int .i64 lv, .slice p m cp]] w1 fun e w' => e = .returned (.bool false) ∧ Below w1.heap.size w1 w'))
    (h5 : ¬ (512 : Int) < (tag.size : Int)) (hm : ¬ more < lv)
    (HO : Hid (∀ w1, Below w.heap.size w w1 → Calls Tryz.prog 8 #[.agg #[.string os, .string arch, .bool cgo, .int .i64 lv, .slice p m cp], .string tag] w1 fun e w' => e = .returned (.bool false) ∧ Below w1.heap.size w1 w'))
    (hn : ¬ n < 1) (hn2 : 9999 < n) :
    Calls Tryz.prog 3 #[.agg #[.string os, .string arch, .bool cgo, .int .i64 lv, .slice p m cp], .int .i64 more, .string tag, .int .i64 n] w (LawEnd w) := by
  have M0 := mem1_new w #[.string os, .string arch, .bool cgo, .int .i64 lv, .slice p m cp] 24
  go_enter Tryz.func3, Tryz.ntmps3
  go_wp2_with fail
  refine (HA.out _ M0.bl).mono ?_
  rintro e w1 ⟨rfl, hB1⟩
  have M1 := M0.next hB1
  clear hB1 M0
  have M1a0 : w1.cell? ⟨w.heap.size, 0, none⟩ = some (.string os) := M1.a 0
  have M1a1 : w1.cell? ⟨w.heap.size, 1, none⟩ = some (.string arch) := M1.a 1
  have M1a2 : w1.cell? ⟨w.heap.size, 2, none⟩ = some (.bool cgo) := M1.a 2
  have M1a3 : w1.cell? ⟨w.heap.size, 3, none⟩ = some (.int .i64 lv) := M1.a 3
  have M1a4 : w1.cell? ⟨w.heap.size, 4, none⟩ = some (.slice p m cp) := M1.a 4
  have M1l := M1.l
  go_wp2_with fail
  refine (HG.out _ M1.bl).mono ?_
  rintro e w2 ⟨rfl, hB2⟩
  have M2 := M1.next hB2
  clear hB2
  have M2a0 : w2.cell? ⟨w.heap.size, 0, none⟩ = some (.string os) := M2.a 0
  have M2a1 : w2.cell? ⟨w.heap.size, 1, none⟩ = some (.string arch) := M2.a 1
  have M2a2 : w2.cell? ⟨w.heap.size, 2, none⟩ = some (.bool cgo) := M2.a 2
  have M2a3 : w2.cell? ⟨w.heap.size, 3, none⟩ = some (.int .i64 lv) := M2.a 3
  have M2a4 : w2.cell? ⟨w.heap.size, 4, none⟩ = some (.slice p m cp) := M2.a 4
  have M2l := M2.l
  go_wp2_with fail
  have M3 := M2.alloc (Obj.cells #[.string os, .string arch, .bool cgo, .int .i64 more, .slice p m cp] 24)
  have N3 := mem1_new w2 #[.string os, .string arch, .bool cgo, .int .i64 more, .slice p m cp] 24
  refine (HO.out _ M3.bl).mono ?_
  rintro e w3 ⟨rfl, hB3⟩
  have M4 := M3.next hB3
  have N4 := N3.next hB3
  clear hB3 M3 N3
  have M4a0 : w3.cell? ⟨w.heap.size, 0, none⟩ = some (.string os) := M4.a 0
  have M4a1 : w3.cell? ⟨w.heap.size, 1, none⟩ = some (.string arch) := M4.a 1
  have M4a2 : w3.cell? ⟨w.heap.size, 2, none⟩ = some (.bool cgo) := M4.a 2
  have M4a3 : w3.cell? ⟨w.heap.size, 3, none⟩ = some (.int .i64 lv) := M4.a 3
  have M4a4 : w3.cell? ⟨w.heap.size, 4, none⟩ = some (.slice p m cp) := M4.a 4
  have M4l := M4.l
  go_wp2_with fail
  go_ret
  exact ⟨rfl, M4.bl⟩
set_option maxRecDepth 100000 in
set_option maxHeartbeats 2000000 in
theorem lev_main_false (os arch tag : ByteArray) (cgo : Bool) (lv more n : Int) (p : Option Addr) (m cp : Nat) (w : World)
    (HA : Hid (∀ w1, Below w.heap.size w w1 → Calls Tryz.prog 6 #[] w1 fun e w' => e = .returned (.bool true) ∧ Below w1.heap.size w1 w'))
    (HG : Hid (∀ w1, Below w.heap.size w w1 → Calls Tryz.prog 7 #[.agg #[.string os, .string arch, .bool cgo, .int .i64 lv, .slice p m cp]] w1 fun e w' => e = .returned (.bool false) ∧ Below w1.heap.size w1 w'))
    (N : Nat) (hN : n = (N : Int)) (h1 : 0 < N) (h2 : N ≤ 9999) (h5 : ¬ (512 : Int) < (tag.size : Int)) (hm : ¬ more < lv)
    (HO : Hid (∀ w1, Below w.heap.size w w1 → Calls Tryz.prog 8 #[.agg #[.string os, .string arch, .bool cgo, .int .i64 lv, .slice p m cp], .string tag] w1 fun e w' => e = .returned (.bool false) ∧ Below w1.heap.size w1 w'))
    (R : ByteArray) (B I : Bool) (hR : ∀ s, Dig N 0 s → (⟨#[103, 111, 49, 46]⟩ : ByteArray) ++ s = R)
    (HR : Hid (∀ w1, Below w.heap.size w w1 → Calls Tryz.prog 8 #[.agg #[.string os, .string arch, .bool cgo, .int .i64 lv, .slice p m cp], .string R] w1 fun e w' => e = .returned (.bool B) ∧ Below w1.heap.size w1 w'))
    (HI : Hid (∀ w1, Below w.heap.size w w1 → Calls Tryz.prog 9 #[.slice p m cp, .string R] w1 fun e w' => e = .returned (.bool I) ∧ Below w1.heap.size w1 w'))
    (hQ : (decide ((N : Int) ≤ lv) = true ∧ B = true) ∨ (decide ((N : Int) ≤ lv) = false ∧ (os.toList == R.toList) = true ∧ B = true) ∨ (decide ((N : Int) ≤ lv) = false ∧ (os.toList == R.toList) = false ∧ (arch.toList == R.toList) = true ∧ B = true) ∨ (decide ((N : Int) ≤ lv) = false ∧ (os.toList == R.toList) = false ∧ (arch.toList == R.toList) = false ∧ B = I)) :
    Calls Tryz.prog 3 #[.agg #[.string os, .string arch, .bool cgo, .int .i64 lv, .slice p m cp], .int .i64 more, .string tag, .int .i64 n] w (LawEnd w) := by
  subst hN
  have hn1 : ¬ (N : Int) < 1 := by omega
  have hn2 : ¬ (9999 : Int) < (N : Int) := by omega
  have M0 := mem1_new w #[.string os, .string arch, .bool cgo, .int .i64 lv, .slice p m cp] 24
  go_enter Tryz.func3, Tryz.ntmps3
  go_wp2_with fail
  refine (HA.out _ M0.bl).mono ?_
  rintro e w1 ⟨rfl, hB1⟩
  have M1 := M0.next hB1
  clear hB1 M0
  have M1a0 : w1.cell? ⟨w.heap.size, 0, none⟩ = some (.string os) := M1.a 0
  have M1a1 : w1.cell? ⟨w.heap.size, 1, none⟩ = some (.string arch) := M1.a 1
  have M1a2 : w1.cell? ⟨w.heap.size, 2, none⟩ = some (.bool cgo) := M1.a 2
  have M1a3 : w1.cell? ⟨w.heap.size, 3, none⟩ = some (.int .i64 lv) := M1.a 3
  have M1a4 : w1.cell? ⟨w.heap.size, 4, none⟩ = some (.slice p m cp) := M1.a 4
  have M1l := M1.l
  go_wp2_with fail
  refine (HG.out _ M1.bl).mono ?_
  rintro e w2 ⟨rfl, hB2⟩
  have M2 := M1.next hB2
  clear hB2
  have M2a0 : w2.cell? ⟨w.heap.size, 0, none⟩ = some (.string os) := M2.a 0
  have M2a1 : w2.cell? ⟨w.heap.size, 1, none⟩ = some (.string arch) := M2.a 1
  have M2a2 : w2.cell? ⟨w.heap.size, 2, none⟩ = some (.bool cgo) := M2.a 2
  have M2a3 : w2.cell? ⟨w.heap.size, 3, none⟩ = some (.int .i64 lv) := M2.a 3
  have M2a4 : w2.cell? ⟨w.heap.size, 4, none⟩ = some (.slice p m cp) := M2.a 4
  have M2l := M2.l
  go_wp2_with fail
  have M3 := M2.alloc (Obj.cells #[.string os, .string arch, .bool cgo, .int .i64 more, .slice p m cp] 24)
  have N3 := mem1_new w2 #[.string os, .string arch, .bool cgo, .int .i64 more, .slice p m cp] 24
  refine (HO.out _ M3.bl).mono ?_
  rintro e w3 ⟨rfl, hB3⟩
  have M4 := M3.next hB3
  have N4 := N3.next hB3
  clear hB3 M3 N3
  have M4a0 : w3.cell? ⟨w.heap.size, 0, none⟩ = some (.string os) := M4.a 0
  have M4a1 : w3.cell? ⟨w.heap.size, 1, none⟩ = some (.string arch) := M4.a 1
  have M4a2 : w3.cell? ⟨w.heap.size, 2, none⟩ = some (.bool cgo) := M4.a 2
  have M4a3 : w3.cell? ⟨w.heap.size, 3, none⟩ = some (.int .i64 lv) := M4.a 3
  have M4a4 : w3.cell? ⟨w.heap.size, 4, none⟩ = some (.slice p m cp) := M4.a 4
  have M4l := M4.l
  go_wp2_with fail
  go_loopg [10, 11] N (fun g sv xv wr => ∃ s : ByteArray, xv = .int .i64 (g : Int) ∧ sv = .string s ∧ Dig N g s ∧ g ≤ 9999 ∧ Mem1 w #[.string os, .string arch, .bool cgo, .int .i64 lv, .slice p m cp] wr)
  case atStart => exact ⟨⟨#[]⟩, rfl, rfl, Dig.start h1, h2, M4⟩
  case round =>
    obtain ⟨s, rfl, rfl, hD, hg, hM⟩ := hrel
    by_cases h0 : 0 < gk
    · have h0I : (0 : Int) < (gk : Int) := by omega
      have hcv := byte_text wr gk
      have hs1 := one_size (UInt8.ofNat (48 + gk % 10))
      have hs4 := hD.small h2
      have hst := Lib.hid (hD.step h0)
      obtain ⟨bt, hbt⟩ : ∃ bt, bt = mkB [UInt8.ofNat (48 + gk % 10)] := ⟨_, rfl⟩
      rw [← hbt] at hcv hs1 hst
      clear hbt hD
      go_wp2_with fail
      go_roundg (gk / 10)
      case measure => omega
      case rel => exact ⟨_, by go_num, rfl, hst.out, by omega, hM.alloc _⟩
    · have h00 : gk = 0 := by omega
      subst h00
      have hRR := hR s hD
      have hs4 := hD.small h2
      clear hR
      clear h0 hD
      obtain ⟨tk, hbk⟩ := hM.bk
      have HL := Lib.hid (fun w1 (h1 : Below wr.heap.size wr w1) => (h1.block _ hM.l).trans hbk)
      have HRR := Lib.hid (fun w1 (h1 : Below wr.heap.size wr w1) => (HR.out w1 (hM.bl.trans (h1.mono hM.bl.size))).mono (fun e w2 hh => (⟨hh.1, h1.trans (hh.2.mono h1.size)⟩ : e = .returned (.bool B) ∧ Below wr.heap.size wr w2)))
      have HII := Lib.hid (fun w1 (h1 : Below wr.heap.size wr w1) => (HI.out w1 (hM.bl.trans (h1.mono hM.bl.size))).mono (fun e w2 hh => (⟨hh.1, h1.trans (hh.2.mono h1.size)⟩ : e = .returned (.bool I) ∧ Below wr.heap.size wr w2)))
      have hc : ∀ i w1, Below wr.heap.size wr w1 → w1.cell? ⟨w.heap.size, i, none⟩ = #[.string os, .string arch, .bool cgo, .int .i64 lv, .slice p m cp][i]? := fun i w1 h1 => (h1.cell (p := ⟨w.heap.size, i, none⟩) hM.l).trans (hM.a i)
      have HL0 := Lib.hid (fun w1 (h1 : Below wr.heap.size wr w1) => (by have h := hc 0 w1 h1; simp at h; simp [go_sem, h] : (loadVar 9 ⟨w.heap.size, 0, none⟩).run Tryz.prog w1 = .ok (.string os) w1))
      have HL1 := Lib.hid (fun w1 (h1 : Below wr.heap.size wr w1) => (by have h := hc 1 w1 h1; simp at h; simp [go_sem, h] : (loadVar 9 ⟨w.heap.size, 1, none⟩).run Tryz.prog w1 = .ok (.string arch) w1))
      have HL3 := Lib.hid (fun w1 (h1 : Below wr.heap.size wr w1) => (by have h := hc 3 w1 h1; simp at h; simp [go_sem, h] : (loadVar 3 ⟨w.heap.size, 3, none⟩).run Tryz.prog w1 = .ok (.int .i64 lv) w1))
      have HL4 := Lib.hid (fun w1 (h1 : Below wr.heap.size wr w1) => (by have h := hc 4 w1 h1; simp at h; simp [go_sem, h] : (loadVar 22 ⟨w.heap.size, 4, none⟩).run Tryz.prog w1 = .ok (.slice p m cp) w1))
      have hb := Lib.hid hM.bl
      clear hbk hM hc
      have H24 := Lib.hid (by kernel_rfl : (Tryz.prog.info? 24).map (·.size) = some (#[.string os, .string arch, .bool cgo, .int .i64 lv, .slice p m cp] : Array Value).size)
      clear H24
      go_wp2_with fail
      rcases hQ with ⟨hd, rfl⟩ | ⟨hd, hq1, rfl⟩ | ⟨hd, hq1, hq2, rfl⟩ | ⟨hd, hq1, hq2, rfl⟩
      · refine wp_region_class (Below wr.heap.size wr) (by kernel_rfl) (by kernel_rfl) (Below.refl _ _).drew ?_
        refine wpQuiet_load_row rfl 24 (.tmp 4) rfl w.heap.size rfl tk #[.string os, .string arch, .bool cgo, .int .i64 lv, .slice p m cp] (0, 0) _ HL.out Tryz.underlying24 rfl (by kernel_rfl) ?_
        simp only [Act.put, List.setIfInBounds_toArray, List.set_cons_succ, List.set_cons_zero]
        repeat (go_big_quiet_step (first | (intro hh; with_reducible exact HRR.out _ hh) | (intro hh; with_reducible exact HII.out _ hh) | (intro _; rfl)))
        refine wpQuiet_load_at rfl 3 (.tmp 64) rfl ⟨w.heap.size, 3, none⟩ rfl (.int .i64 lv) HL3.out ?_
        simp only [Act.put, List.setIfInBounds_toArray, List.set_cons_succ, List.set_cons_zero]
        repeat (go_big_quiet_step (first | (intro hh; with_reducible exact HRR.out _ hh) | (intro hh; with_reducible exact HII.out _ hh) | (intro _; rfl)))
        refine wpQuiet_nil ?_
        intro wq hBq
        have hb7 := hb.out.trans (hBq.mono hb.out.size)
        clear hBq
        go_wp2_with fail
        go_ret
        exact ⟨rfl, hb7⟩
      · refine wp_region_class (Below wr.heap.size wr) (by kernel_rfl) (by kernel_rfl) (Below.refl _ _).drew ?_
        refine wpQuiet_load_row rfl 24 (.tmp 4) rfl w.heap.size rfl tk #[.string os, .string arch, .bool cgo, .int .i64 lv, .slice p m cp] (0, 0) _ HL.out Tryz.underlying24 rfl (by kernel_rfl) ?_
        simp only [Act.put, List.setIfInBounds_toArray, List.set_cons_succ, List.set_cons_zero]
        repeat (go_big_quiet_step (first | (intro hh; with_reducible exact HRR.out _ hh) | (intro hh; with_reducible exact HII.out _ hh) | (intro _; rfl)))
        refine wpQuiet_load_at rfl 3 (.tmp 64) rfl ⟨w.heap.size, 3, none⟩ rfl (.int .i64 lv) HL3.out ?_
        simp only [Act.put, List.setIfInBounds_toArray, List.set_cons_succ, List.set_cons_zero]
        repeat (go_big_quiet_step (first | (intro hh; with_reducible exact HRR.out _ hh) | (intro hh; with_reducible exact HII.out _ hh) | (intro _; rfl)))
        refine wpQuiet_load_at rfl 9 (.tmp 68) rfl ⟨w.heap.size, 0, none⟩ rfl (.string os) HL0.out ?_
        simp only [Act.put, List.setIfInBounds_toArray, List.set_cons_succ, List.set_cons_zero]
        repeat (go_big_quiet_step (first | (intro hh; with_reducible exact HRR.out _ hh) | (intro hh; with_reducible exact HII.out _ hh) | (intro _; rfl)))
        refine wpQuiet_nil ?_
        intro wq hBq
        have hb7 := hb.out.trans (hBq.mono hb.out.size)
        clear hBq
        go_wp2_with fail
        go_ret
        exact ⟨rfl, hb7⟩
      · refine wp_region_class (Below wr.heap.size wr) (by kernel_rfl) (by kernel_rfl) (Below.refl _ _).drew ?_
        refine wpQuiet_load_row rfl 24 (.tmp 4) rfl w.heap.size rfl tk #[.string os, .string arch, .bool cgo, .int .i64 lv, .slice p m cp] (0, 0) _ HL.out Tryz.underlying24 rfl (by kernel_rfl) ?_
        simp only [Act.put, List.setIfInBounds_toArray, List.set_cons_succ, List.set_cons_zero]
        repeat (go_big_quiet_step (first | (intro hh; with_reducible exact HRR.out _ hh) | (intro hh; with_reducible exact HII.out _ hh) | (intro _; rfl)))
        refine wpQuiet_load_at rfl 3 (.tmp 64) rfl ⟨w.heap.size, 3, none⟩ rfl (.int .i64 lv) HL3.out ?_
        simp only [Act.put, List.setIfInBounds_toArray, List.set_cons_succ, List.set_cons_zero]
        repeat (go_big_quiet_step (first | (intro hh; with_reducible exact HRR.out _ hh) | (intro hh; with_reducible exact HII.out _ hh) | (intro _; rfl)))
        refine wpQuiet_load_at rfl 9 (.tmp 68) rfl ⟨w.heap.size, 0, none⟩ rfl (.string os) HL0.out ?_
        simp only [Act.put, List.setIfInBounds_toArray, List.set_cons_succ, List.set_cons_zero]
        repeat (go_big_quiet_step (first | (intro hh; with_reducible exact HRR.out _ hh) | (intro hh; with_reducible exact HII.out _ hh) | (intro _; rfl)))
        refine wpQuiet_load_at rfl 9 (.tmp 74) rfl ⟨w.heap.size, 1, none⟩ rfl (.string arch) HL1.out ?_
        simp only [Act.put, List.setIfInBounds_toArray, List.set_cons_succ, List.set_cons_zero]
        repeat (go_big_quiet_step (first | (intro hh; with_reducible exact HRR.out _ hh) | (intro hh; with_reducible exact HII.out _ hh) | (intro _; rfl)))
        refine wpQuiet_nil ?_
        intro wq hBq
        have hb7 := hb.out.trans (hBq.mono hb.out.size)
        clear hBq
        go_wp2_with fail
        go_ret
        exact ⟨rfl, hb7⟩
      · refine wp_region_class (Below wr.heap.size wr) (by kernel_rfl) (by kernel_rfl) (Below.refl _ _).drew ?_
        refine wpQuiet_load_row rfl 24 (.tmp 4) rfl w.heap.size rfl tk #[.string os, .string arch, .bool cgo, .int .i64 lv, .slice p m cp] (0, 0) _ HL.out Tryz.underlying24 rfl (by kernel_rfl) ?_
        simp only [Act.put, List.setIfInBounds_toArray, List.set_cons_succ, List.set_cons_zero]
        repeat (go_big_quiet_step (first | (intro hh; with_reducible exact HRR.out _ hh) | (intro hh; with_reducible exact HII.out _ hh) | (intro _; rfl)))
        refine wpQuiet_load_at rfl 3 (.tmp 64) rfl ⟨w.heap.size, 3, none⟩ rfl (.int .i64 lv) HL3.out ?_
        simp only [Act.put, List.setIfInBounds_toArray, List.set_cons_succ, List.set_cons_zero]
        repeat (go_big_quiet_step (first | (intro hh; with_reducible exact HRR.out _ hh) | (intro hh; with_reducible exact HII.out _ hh) | (intro _; rfl)))
        refine wpQuiet_load_at rfl 9 (.tmp 68) rfl ⟨w.heap.size, 0, none⟩ rfl (.string os) HL0.out ?_
        simp only [Act.put, List.setIfInBounds_toArray, List.set_cons_succ, List.set_cons_zero]
        repeat (go_big_quiet_step (first | (intro hh; with_reducible exact HRR.out _ hh) | (intro hh; with_reducible exact HII.out _ hh) | (intro _; rfl)))
        refine wpQuiet_load_at rfl 9 (.tmp 74) rfl ⟨w.heap.size, 1, none⟩ rfl (.string arch) HL1.out ?_
        simp only [Act.put, List.setIfInBounds_toArray, List.set_cons_succ, List.set_cons_zero]
        repeat (go_big_quiet_step (first | (intro hh; with_reducible exact HRR.out _ hh) | (intro hh; with_reducible exact HII.out _ hh) | (intro _; rfl)))
        refine wpQuiet_load_at rfl 22 (.tmp 80) rfl ⟨w.heap.size, 4, none⟩ rfl (.slice p m cp) HL4.out ?_
        simp only [Act.put, List.setIfInBounds_toArray, List.set_cons_succ, List.set_cons_zero]
        repeat (go_big_quiet_step (first | (intro hh; with_reducible exact HRR.out _ hh) | (intro hh; with_reducible exact HII.out _ hh) | (intro _; rfl)))
        refine wpQuiet_nil ?_
        intro wq hBq
        have hb7 := hb.out.trans (hBq.mono hb.out.size)
        clear hBq
        go_wp2_with fail
        go_ret
        exact ⟨rfl, hb7⟩

theorem lev_cases {os arch R : ByteArray} {a B I : Bool} (h : B = (a || decide (R = os) || decide (R = arch) || I)) :
    (a = true ∧ B = true) ∨ (a = false ∧ (os.toList == R.toList) = true ∧ B = true) ∨ (a = false ∧ (os.toList == R.toList) = false ∧ (arch.toList == R.toList) = true ∧ B = true) ∨ (a = false ∧ (os.toList == R.toList) = false ∧ (arch.toList == R.toList) = false ∧ B = I) := by
  cases a with
  | true => exact .inl ⟨rfl, by simpa using h⟩
  | false =>
    by_cases h1 : os = R
    · exact .inr (.inl ⟨rfl, beq_of h1, by simpa [h1] using h⟩)
    by_cases h2 : arch = R
    · exact .inr (.inr (.inl ⟨rfl, beq_of_ne h1, beq_of h2, by simpa [h2] using h⟩))
    · exact .inr (.inr (.inr ⟨rfl, beq_of_ne h1, beq_of_ne h2, by rw [h, decide_eq_false (fun e => h1 e.symm), decide_eq_false (fun e => h2 e.symm)]; simp⟩))
theorem rel_small (n : Nat) (h : n ≤ 9999) : (relT n).size ≤ 8 := by
  unfold relT
  rw [mkB_size, List.length_append]
  have := dig_four h
  have : go1L.length = 4 := rfl
  omega
theorem levels_any (c : Cf) (tv : Value) (more n : Int) (tag : ByteArray) (w : World) (hE : Env w) (hv : Strs w tv c.tags) (hz : ∀ x ∈ c.tags, x.size ≤ 140737488351232) (hl : c.tags.length ≤ 1073741824) (ho : c.os.size ≤ 140737488351232) (ha : c.arch.size ≤ 140737488351232) :
    Calls Tryz.prog 3 #[cfV c tv, .int .i64 more, .string tag, .int .i64 n] w (LawEnd w) := by
  have HA := Lib.hid (fun w1 (h1 : Below w.heap.size w w1) => alive_any w1 (hE.below h1))
  have HG := fun w1 (h1 : Below w.heap.size w w1) => greatC_any c tv w1 (hv.below h1) hz (by omega) ho ha
  have HO := fun t w1 (h1 : Below w.heap.size w w1) (ht : t.size ≤ 140737488351232) => on_any c t tv w1 (hE.below h1) (hv.below h1) hl ht
  have HD := fun t w1 (h1 : Below w.heap.size w w1) (ht : t.size ≤ 140737488351232) => on_any { c with lv := more } t tv w1 (hE.below h1) (hv.below h1) hl ht
  have HI := fun t w1 (h1 : Below w.heap.size w w1) => (in_any tv c.tags t w1 (hv.below h1)).mono (fun e w2 hh => (⟨hh.1, hh.2 ▸ Below.refl _ _⟩ : e = .returned (.bool (inB c.tags t)) ∧ Below w1.heap.size w1 w2))
  obtain ⟨p, cap, rfl, -⟩ := strs_shape hv
  have hR := @on_rel c
  have hmono := @onB_mono c tag more
  clear hE hv
  obtain ⟨os, arch, cgo, lv, tags⟩ := c
  unfold cfV at *
  simp only at *
  cases hg : greatC ⟨os, arch, cgo, lv, tags⟩ with
  | true => exact lev_great os arch tag cgo lv more n p _ cap w HA (Lib.hid (by rw [hg] at HG; exact HG))
  | false =>
    rw [hg] at HG
    have HG := Lib.hid HG
    by_cases h5 : (512 : Int) < (tag.size : Int)
    · exact lev_long os arch tag cgo lv more n p _ cap w HA HG h5
    by_cases hm : more < lv
    · exact lev_less os arch tag cgo lv more n p _ cap w HA HG h5 hm
    have hts : tag.size ≤ 140737488351232 := by omega
    cases hon : onB ⟨os, arch, cgo, lv, tags⟩ tag with
    | true =>
      have hon2 := hmono (by omega) hon
      have HO1 := Lib.hid (fun w1 h1 => (by have := HO tag w1 h1 hts; rw [hon] at this; exact this : Calls Tryz.prog 8 #[.agg #[.string os, .string arch, .bool cgo, .int .i64 lv, .slice p tags.length cap], .string tag] w1 fun e w' => e = .returned (.bool true) ∧ Below w1.heap.size w1 w'))
      have HD1 := Lib.hid (fun w1 h1 => (by have := HD tag w1 h1 hts; rw [hon2] at this; exact this : Calls Tryz.prog 8 #[.agg #[.string os, .string arch, .bool cgo, .int .i64 more, .slice p tags.length cap], .string tag] w1 fun e w' => e = .returned (.bool true) ∧ Below w1.heap.size w1 w'))
      by_cases hn : n < 1
      · exact lev_low_true os arch tag cgo lv more n p _ cap w HA HG h5 hm HO1 HD1 hn
      by_cases hn2 : 9999 < n
      · exact lev_high_true os arch tag cgo lv more n p _ cap w HA HG h5 hm HO1 HD1 hn hn2
      obtain ⟨N, rfl⟩ : ∃ N : Nat, n = (N : Int) := ⟨n.toNat, by omega⟩
      have hN2 : N ≤ 9999 := by omega
      have hrs := rel_small N hN2
      exact lev_main_true os arch tag cgo lv more (N : Int) p _ cap w HA HG N rfl (by omega) hN2 h5 hm HO1 HD1 (relT N) (onB ⟨os, arch, cgo, lv, tags⟩ (relT N)) (inB tags (relT N)) (fun s hs => hs.done) (Lib.hid (fun w1 h1 => HO (relT N) w1 h1 (by omega)))
        (Lib.hid (fun w1 h1 => HI (relT N) w1 h1)) (lev_cases (hR hN2))
    | false =>
      have HO1 := Lib.hid (fun w1 h1 => (by have := HO tag w1 h1 hts; rw [hon] at this; exact this : Calls Tryz.prog 8 #[.agg #[.string os, .string arch, .bool cgo, .int .i64 lv, .slice p tags.length cap], .string tag] w1 fun e w' => e = .returned (.bool false) ∧ Below w1.heap.size w1 w'))
      by_cases hn : n < 1
      · exact lev_low_false os arch tag cgo lv more n p _ cap w HA HG h5 hm HO1 hn
      by_cases hn2 : 9999 < n
      · exact lev_high_false os arch tag cgo lv more n p _ cap w HA HG h5 hm HO1 hn hn2
      obtain ⟨N, rfl⟩ : ∃ N : Nat, n = (N : Int) := ⟨n.toNat, by omega⟩
      have hN2 : N ≤ 9999 := by omega
      have hrs := rel_small N hN2
      exact lev_main_false os arch tag cgo lv more (N : Int) p _ cap w HA HG N rfl (by omega) hN2 h5 hm HO1 (relT N) (onB ⟨os, arch, cgo, lv, tags⟩ (relT N)) (inB tags (relT N)) (fun s hs => hs.done) (Lib.hid (fun w1 h1 => HO (relT N) w1 h1 (by omega)))
        (Lib.hid (fun w1 h1 => HI (relT N) w1 h1)) (lev_cases (hR hN2))

end Go.Proofs.YtpibehfmbmincaaGreatDoor
