/- Walks: In, of a header without a fault. -/
import Derived.Test.YtpibehfmbmincaaGreatDoorCc
namespace Go.Proofs.YtpibehfmbmincaaGreatDoor
set_option linter.unusedVariables false
open Go.ChangeShapes Go.WideShapes Go.ChangeAt Go.RowKit

structure Hd where
  name : ByteArray
  imps : List Imp
  build : ByteArray
  fault : Int
def hdV (h : Hd) (iv ev : Value) (at_ : Int) : Value := .agg #[.string h.name, iv, .string h.build, ev, .int .i64 h.fault, .int .i64 at_]
def outB (c : Cf) (z : ByteArray) : Bool := !(decide (z = ⟨#[]⟩)) && !(onB c z)
def inR (c : Cf) (r : Bool × Bool × ByteArray × ByteArray) (h : Hd) : Int × Int :=
  if !r.1 || outB c r.2.2.1 || outB c r.2.2.2 then (0, 0)
  else if h.fault ≠ 0 then (kindN r, h.fault)
  else if (holdsR c h.build).2 ≠ 0 then (kindN r, 4)
  else if !(holdsR c h.build).1 || (!c.cgo && h.imps.any isC) then (0, 0) else (varN r h.name, 0)

/-- Three blocks that were made. -/
structure Mem3 (w w1 : World) (A B C : Array Value) (x : World) : Prop where
  a : ∀ i, x.cell? ⟨w.heap.size, i, none⟩ = A[i]?
  b : ∀ i, x.cell? ⟨w.heap.size + 1, i, none⟩ = B[i]?
  c : ∀ i, x.cell? ⟨w1.heap.size, i, none⟩ = C[i]?
  l1 : w.heap.size + 1 < w1.heap.size
  l2 : w1.heap.size < x.heap.size
  bl : Below w.heap.size w x
theorem Mem3.next {w w1 : World} {A B C : Array Value} {x y : World} (h : Mem3 w w1 A B C x) (hB : Below x.heap.size x y) : Mem3 w w1 A B C y := by
  have h1 := h.l1
  have h2 := h.l2
  refine ⟨fun i => (hB.cell (p := ⟨w.heap.size, i, none⟩) (by show w.heap.size < x.heap.size; omega)).trans (h.a i), fun i => (hB.cell (p := ⟨w.heap.size + 1, i, none⟩) (by show w.heap.size + 1 < x.heap.size; omega)).trans (h.b i), fun i => (hB.cell (p := ⟨w1.heap.size, i, none⟩) h2).trans (h.c i), h1, Nat.lt_of_lt_of_le h2 hB.size, h.bl.trans (hB.mono h.bl.size)⟩
/-- Two blocks that were made. -/
structure Mem2 (w : World) (A B : Array Value) (x : World) : Prop where
  a : ∀ i, x.cell? ⟨w.heap.size, i, none⟩ = A[i]?
  b : ∀ i, x.cell? ⟨w.heap.size + 1, i, none⟩ = B[i]?
  l : w.heap.size + 1 < x.heap.size
  bl : Below w.heap.size w x
theorem mem2_new (w : World) (A B : Array Value) (tA tB : TypeId) : Mem2 w A B ((w.alloc (.cells A tA)).alloc (.cells B tB)) := by
  have e : (w.alloc (.cells A tA)).heap.size = w.heap.size + 1 := by simp
  refine ⟨fun i => ?_, fun i => ?_, by simp, ((Below.refl _ w).alloc (Nat.le_refl _) _).alloc (by simp) _⟩
  · rw [World.cell?_alloc_lt _ _ _ (by show w.heap.size < _; rw [e]; omega)]
    exact new_cell w A tA i
  · have := new_cell (w.alloc (.cells A tA)) B tB i
    rw [e] at this
    exact this
theorem Mem2.next {w : World} {A B : Array Value} {x y : World} (h : Mem2 w A B x) (hB : Below x.heap.size x y) : Mem2 w A B y := by
  have h1 := h.l
  exact ⟨fun i => (hB.cell (p := ⟨w.heap.size, i, none⟩) (by show w.heap.size < x.heap.size; omega)).trans (h.a i), fun i => (hB.cell (p := ⟨w.heap.size + 1, i, none⟩) h1).trans (h.b i), Nat.lt_of_lt_of_le h1 hB.size, h.bl.trans (hB.mono h.bl.size)⟩
theorem Mem2.more {w x : World} {A B : Array Value} (h : Mem2 w A B x) (C : Array Value) (tC : TypeId) : Mem3 w x A B C (x.alloc (.cells C tC)) := by
  have h1 := h.l
  refine ⟨fun i => ?_, fun i => ?_, fun i => new_cell x C tC i, h1, by simp, h.bl.alloc h.bl.size _⟩
  · rw [World.cell?_alloc_lt _ _ _ (by show w.heap.size < _; omega)]; exact h.a i
  · rw [World.cell?_alloc_lt _ _ _ h1]; exact h.b i
theorem some_not {z : ByteArray} (h : ¬ z = ⟨#[]⟩) : decide (z = ⟨#[]⟩) = false := decide_eq_false h

set_option maxRecDepth 100000 in
set_option maxHeartbeats 2000000 in
theorem in_no_n (os arch nm bu z y file : ByteArray) (cgo t x : Bool) (lv er at_ : Int) (p q s : Option Addr) (n m k cp cq cs : Nat) (w : World) (HO : Hid (∀ w1, Below w.heap.size w w1 → Calls Tryz.prog 17 #[.string file] w1 fun e w' => e = .returned (.agg #[.bool false, .bool t, .string z, .string y]) ∧ Below w1.heap.size w1 w')) :
    Calls Tryz.prog 10 #[.agg #[.string os, .string arch, .bool cgo, .int .i64 lv, .slice p n cp], .string file, .agg #[.string nm, .slice q m cq, .string bu, .slice s k cs, .int .i64 0, .int .i64 at_]] w fun e w' => e = .returned (.tuple #[(.int .i64 0), (.int .i64 0)]) ∧ Below w.heap.size w w' := by
  have M0 := mem2_new w #[.string os, .string arch, .bool cgo, .int .i64 lv, .slice p n cp] #[.string nm, .slice q m cq, .string bu, .slice s k cs, .int .i64 0, .int .i64 at_] 24 33
  have M0b := M0.bl
  go_enter Tryz.func10, Tryz.ntmps10
  go_wp2_with fail
  refine (HO.out _ M0b).mono ?_
  rintro e w1 ⟨rfl, hB1⟩
  have M1 := M0.next hB1
  have hl1 := M1.l
  have hl0 : w.heap.size < w1.heap.size := by omega
  have M1a0 : w1.cell? ⟨w.heap.size, 0, none⟩ = some (.string os) := M1.a 0
  have M1a1 : w1.cell? ⟨w.heap.size, 1, none⟩ = some (.string arch) := M1.a 1
  have M1a2 : w1.cell? ⟨w.heap.size, 2, none⟩ = some (.bool cgo) := M1.a 2
  have M1a3 : w1.cell? ⟨w.heap.size, 3, none⟩ = some (.int .i64 lv) := M1.a 3
  have M1a4 : w1.cell? ⟨w.heap.size, 4, none⟩ = some (.slice p n cp) := M1.a 4
  have M1b0 : w1.cell? ⟨w.heap.size + 1, 0, none⟩ = some (.string nm) := M1.b 0
  have M1b1 : w1.cell? ⟨w.heap.size + 1, 1, none⟩ = some (.slice q m cq) := M1.b 1
  have M1b2 : w1.cell? ⟨w.heap.size + 1, 2, none⟩ = some (.string bu) := M1.b 2
  have M1b3 : w1.cell? ⟨w.heap.size + 1, 3, none⟩ = some (.slice s k cs) := M1.b 3
  have M1b4 : w1.cell? ⟨w.heap.size + 1, 4, none⟩ = some (.int .i64 0) := M1.b 4
  have M1b5 : w1.cell? ⟨w.heap.size + 1, 5, none⟩ = some (.int .i64 at_) := M1.b 5
  have N := M1.more #[.bool false, .bool t, .string z, .string y] 44
  clear hB1 M0 M0b
  have Na0 : (w1.alloc (Obj.cells #[.bool false, .bool t, .string z, .string y] 44)).cell? ⟨w.heap.size, 0, none⟩ = some (.string os) := N.a 0
  have Na1 : (w1.alloc (Obj.cells #[.bool false, .bool t, .string z, .string y] 44)).cell? ⟨w.heap.size, 1, none⟩ = some (.string arch) := N.a 1
  have Na2 : (w1.alloc (Obj.cells #[.bool false, .bool t, .string z, .string y] 44)).cell? ⟨w.heap.size, 2, none⟩ = some (.bool cgo) := N.a 2
  have Na3 : (w1.alloc (Obj.cells #[.bool false, .bool t, .string z, .string y] 44)).cell? ⟨w.heap.size, 3, none⟩ = some (.int .i64 lv) := N.a 3
  have Na4 : (w1.alloc (Obj.cells #[.bool false, .bool t, .string z, .string y] 44)).cell? ⟨w.heap.size, 4, none⟩ = some (.slice p n cp) := N.a 4
  have Nb0 : (w1.alloc (Obj.cells #[.bool false, .bool t, .string z, .string y] 44)).cell? ⟨w.heap.size + 1, 0, none⟩ = some (.string nm) := N.b 0
  have Nb1 : (w1.alloc (Obj.cells #[.bool false, .bool t, .string z, .string y] 44)).cell? ⟨w.heap.size + 1, 1, none⟩ = some (.slice q m cq) := N.b 1
  have Nb2 : (w1.alloc (Obj.cells #[.bool false, .bool t, .string z, .string y] 44)).cell? ⟨w.heap.size + 1, 2, none⟩ = some (.string bu) := N.b 2
  have Nb3 : (w1.alloc (Obj.cells #[.bool false, .bool t, .string z, .string y] 44)).cell? ⟨w.heap.size + 1, 3, none⟩ = some (.slice s k cs) := N.b 3
  have Nb4 : (w1.alloc (Obj.cells #[.bool false, .bool t, .string z, .string y] 44)).cell? ⟨w.heap.size + 1, 4, none⟩ = some (.int .i64 0) := N.b 4
  have Nb5 : (w1.alloc (Obj.cells #[.bool false, .bool t, .string z, .string y] 44)).cell? ⟨w.heap.size + 1, 5, none⟩ = some (.int .i64 at_) := N.b 5
  go_wp2_with fail
  go_ret2
  exact ⟨rfl, N.bl⟩
set_option maxRecDepth 100000 in
set_option maxHeartbeats 2000000 in
theorem in_N_n (os arch nm bu z y file : ByteArray) (cgo t x : Bool) (lv er at_ : Int) (p q s : Option Addr) (n m k cp cq cs : Nat) (w : World) (HO : Hid (∀ w1, Below w.heap.size w w1 → Calls Tryz.prog 17 #[.string file] w1 fun e w' => e = .returned (.agg #[.bool true, .bool t, .string z, .string y]) ∧ Below w1.heap.size w1 w')) (hO : Hid (∀ w1, Below w.heap.size w w1 → Calls Tryz.prog 8 #[.agg #[.string os, .string arch, .bool cgo, .int .i64 lv, .slice p n cp], .string z] w1 fun e w' => e = .returned (.bool false) ∧ Below w1.heap.size w1 w')) (ho : z.toList.isEmpty = false) :
    Calls Tryz.prog 10 #[.agg #[.string os, .string arch, .bool cgo, .int .i64 lv, .slice p n cp], .string file, .agg #[.string nm, .slice q m cq, .string bu, .slice s k cs, .int .i64 0, .int .i64 at_]] w fun e w' => e = .returned (.tuple #[(.int .i64 0), (.int .i64 0)]) ∧ Below w.heap.size w w' := by
  have M0 := mem2_new w #[.string os, .string arch, .bool cgo, .int .i64 lv, .slice p n cp] #[.string nm, .slice q m cq, .string bu, .slice s k cs, .int .i64 0, .int .i64 at_] 24 33
  have M0b := M0.bl
  go_enter Tryz.func10, Tryz.ntmps10
  go_wp2_with fail
  refine (HO.out _ M0b).mono ?_
  rintro e w1 ⟨rfl, hB1⟩
  have M1 := M0.next hB1
  have hl1 := M1.l
  have hl0 : w.heap.size < w1.heap.size := by omega
  have M1a0 : w1.cell? ⟨w.heap.size, 0, none⟩ = some (.string os) := M1.a 0
  have M1a1 : w1.cell? ⟨w.heap.size, 1, none⟩ = some (.string arch) := M1.a 1
  have M1a2 : w1.cell? ⟨w.heap.size, 2, none⟩ = some (.bool cgo) := M1.a 2
  have M1a3 : w1.cell? ⟨w.heap.size, 3, none⟩ = some (.int .i64 lv) := M1.a 3
  have M1a4 : w1.cell? ⟨w.heap.size, 4, none⟩ = some (.slice p n cp) := M1.a 4
  have M1b0 : w1.cell? ⟨w.heap.size + 1, 0, none⟩ = some (.string nm) := M1.b 0
  have M1b1 : w1.cell? ⟨w.heap.size + 1, 1, none⟩ = some (.slice q m cq) := M1.b 1
  have M1b2 : w1.cell? ⟨w.heap.size + 1, 2, none⟩ = some (.string bu) := M1.b 2
  have M1b3 : w1.cell? ⟨w.heap.size + 1, 3, none⟩ = some (.slice s k cs) := M1.b 3
  have M1b4 : w1.cell? ⟨w.heap.size + 1, 4, none⟩ = some (.int .i64 0) := M1.b 4
  have M1b5 : w1.cell? ⟨w.heap.size + 1, 5, none⟩ = some (.int .i64 at_) := M1.b 5
  have N := M1.more #[.bool true, .bool t, .string z, .string y] 44
  clear hB1 M0 M0b
  have Na0 : (w1.alloc (Obj.cells #[.bool true, .bool t, .string z, .string y] 44)).cell? ⟨w.heap.size, 0, none⟩ = some (.string os) := N.a 0
  have Na1 : (w1.alloc (Obj.cells #[.bool true, .bool t, .string z, .string y] 44)).cell? ⟨w.heap.size, 1, none⟩ = some (.string arch) := N.a 1
  have Na2 : (w1.alloc (Obj.cells #[.bool true, .bool t, .string z, .string y] 44)).cell? ⟨w.heap.size, 2, none⟩ = some (.bool cgo) := N.a 2
  have Na3 : (w1.alloc (Obj.cells #[.bool true, .bool t, .string z, .string y] 44)).cell? ⟨w.heap.size, 3, none⟩ = some (.int .i64 lv) := N.a 3
  have Na4 : (w1.alloc (Obj.cells #[.bool true, .bool t, .string z, .string y] 44)).cell? ⟨w.heap.size, 4, none⟩ = some (.slice p n cp) := N.a 4
  have Nb0 : (w1.alloc (Obj.cells #[.bool true, .bool t, .string z, .string y] 44)).cell? ⟨w.heap.size + 1, 0, none⟩ = some (.string nm) := N.b 0
  have Nb1 : (w1.alloc (Obj.cells #[.bool true, .bool t, .string z, .string y] 44)).cell? ⟨w.heap.size + 1, 1, none⟩ = some (.slice q m cq) := N.b 1
  have Nb2 : (w1.alloc (Obj.cells #[.bool true, .bool t, .string z, .string y] 44)).cell? ⟨w.heap.size + 1, 2, none⟩ = some (.string bu) := N.b 2
  have Nb3 : (w1.alloc (Obj.cells #[.bool true, .bool t, .string z, .string y] 44)).cell? ⟨w.heap.size + 1, 3, none⟩ = some (.slice s k cs) := N.b 3
  have Nb4 : (w1.alloc (Obj.cells #[.bool true, .bool t, .string z, .string y] 44)).cell? ⟨w.heap.size + 1, 4, none⟩ = some (.int .i64 0) := N.b 4
  have Nb5 : (w1.alloc (Obj.cells #[.bool true, .bool t, .string z, .string y] 44)).cell? ⟨w.heap.size + 1, 5, none⟩ = some (.int .i64 at_) := N.b 5
  go_wp2_with fail
  refine (hO.out _ N.bl).mono ?_
  rintro e w2 ⟨rfl, hB2⟩
  have N2 := N.next hB2
  have hl2 := N2.l2
  have hlb2 : w.heap.size + 1 < w2.heap.size := by have := N2.l1; omega
  have hlc2 : w.heap.size < w2.heap.size := by omega
  clear hB2
  have N2a0 : w2.cell? ⟨w.heap.size, 0, none⟩ = some (.string os) := N2.a 0
  have N2a1 : w2.cell? ⟨w.heap.size, 1, none⟩ = some (.string arch) := N2.a 1
  have N2a2 : w2.cell? ⟨w.heap.size, 2, none⟩ = some (.bool cgo) := N2.a 2
  have N2a3 : w2.cell? ⟨w.heap.size, 3, none⟩ = some (.int .i64 lv) := N2.a 3
  have N2a4 : w2.cell? ⟨w.heap.size, 4, none⟩ = some (.slice p n cp) := N2.a 4
  have N2b0 : w2.cell? ⟨w.heap.size + 1, 0, none⟩ = some (.string nm) := N2.b 0
  have N2b1 : w2.cell? ⟨w.heap.size + 1, 1, none⟩ = some (.slice q m cq) := N2.b 1
  have N2b2 : w2.cell? ⟨w.heap.size + 1, 2, none⟩ = some (.string bu) := N2.b 2
  have N2b3 : w2.cell? ⟨w.heap.size + 1, 3, none⟩ = some (.slice s k cs) := N2.b 3
  have N2b4 : w2.cell? ⟨w.heap.size + 1, 4, none⟩ = some (.int .i64 0) := N2.b 4
  have N2b5 : w2.cell? ⟨w.heap.size + 1, 5, none⟩ = some (.int .i64 at_) := N2.b 5
  have N2c0 : w2.cell? ⟨w1.heap.size, 0, none⟩ = some (.bool true) := N2.c 0
  have N2c1 : w2.cell? ⟨w1.heap.size, 1, none⟩ = some (.bool t) := N2.c 1
  have N2c2 : w2.cell? ⟨w1.heap.size, 2, none⟩ = some (.string z) := N2.c 2
  have N2c3 : w2.cell? ⟨w1.heap.size, 3, none⟩ = some (.string y) := N2.c 3
  go_wp2_with fail
  go_ret2
  exact ⟨rfl, N2.bl⟩
set_option maxRecDepth 100000 in
set_option maxHeartbeats 2000000 in
theorem in_EN_n (os arch nm bu z y file : ByteArray) (cgo t x : Bool) (lv er at_ : Int) (p q s : Option Addr) (n m k cp cq cs : Nat) (w : World) (HO : Hid (∀ w1, Below w.heap.size w w1 → Calls Tryz.prog 17 #[.string file] w1 fun e w' => e = .returned (.agg #[.bool true, .bool t, .string z, .string y]) ∧ Below w1.heap.size w1 w')) (ho : z.toList.isEmpty = true) (hR : Hid (∀ w1, Below w.heap.size w w1 → Calls Tryz.prog 8 #[.agg #[.string os, .string arch, .bool cgo, .int .i64 lv, .slice p n cp], .string y] w1 fun e w' => e = .returned (.bool false) ∧ Below w1.heap.size w1 w')) (hr : y.toList.isEmpty = false) :
    Calls Tryz.prog 10 #[.agg #[.string os, .string arch, .bool cgo, .int .i64 lv, .slice p n cp], .string file, .agg #[.string nm, .slice q m cq, .string bu, .slice s k cs, .int .i64 0, .int .i64 at_]] w fun e w' => e = .returned (.tuple #[(.int .i64 0), (.int .i64 0)]) ∧ Below w.heap.size w w' := by
  have M0 := mem2_new w #[.string os, .string arch, .bool cgo, .int .i64 lv, .slice p n cp] #[.string nm, .slice q m cq, .string bu, .slice s k cs, .int .i64 0, .int .i64 at_] 24 33
  have M0b := M0.bl
  go_enter Tryz.func10, Tryz.ntmps10
  go_wp2_with fail
  refine (HO.out _ M0b).mono ?_
  rintro e w1 ⟨rfl, hB1⟩
  have M1 := M0.next hB1
  have hl1 := M1.l
  have hl0 : w.heap.size < w1.heap.size := by omega
  have M1a0 : w1.cell? ⟨w.heap.size, 0, none⟩ = some (.string os) := M1.a 0
  have M1a1 : w1.cell? ⟨w.heap.size, 1, none⟩ = some (.string arch) := M1.a 1
  have M1a2 : w1.cell? ⟨w.heap.size, 2, none⟩ = some (.bool cgo) := M1.a 2
  have M1a3 : w1.cell? ⟨w.heap.size, 3, none⟩ = some (.int .i64 lv) := M1.a 3
  have M1a4 : w1.cell? ⟨w.heap.size, 4, none⟩ = some (.slice p n cp) := M1.a 4
  have M1b0 : w1.cell? ⟨w.heap.size + 1, 0, none⟩ = some (.string nm) := M1.b 0
  have M1b1 : w1.cell? ⟨w.heap.size + 1, 1, none⟩ = some (.slice q m cq) := M1.b 1
  have M1b2 : w1.cell? ⟨w.heap.size + 1, 2, none⟩ = some (.string bu) := M1.b 2
  have M1b3 : w1.cell? ⟨w.heap.size + 1, 3, none⟩ = some (.slice s k cs) := M1.b 3
  have M1b4 : w1.cell? ⟨w.heap.size + 1, 4, none⟩ = some (.int .i64 0) := M1.b 4
  have M1b5 : w1.cell? ⟨w.heap.size + 1, 5, none⟩ = some (.int .i64 at_) := M1.b 5
  have N := M1.more #[.bool true, .bool t, .string z, .string y] 44
  clear hB1 M0 M0b
  have Na0 : (w1.alloc (Obj.cells #[.bool true, .bool t, .string z, .string y] 44)).cell? ⟨w.heap.size, 0, none⟩ = some (.string os) := N.a 0
  have Na1 : (w1.alloc (Obj.cells #[.bool true, .bool t, .string z, .string y] 44)).cell? ⟨w.heap.size, 1, none⟩ = some (.string arch) := N.a 1
  have Na2 : (w1.alloc (Obj.cells #[.bool true, .bool t, .string z, .string y] 44)).cell? ⟨w.heap.size, 2, none⟩ = some (.bool cgo) := N.a 2
  have Na3 : (w1.alloc (Obj.cells #[.bool true, .bool t, .string z, .string y] 44)).cell? ⟨w.heap.size, 3, none⟩ = some (.int .i64 lv) := N.a 3
  have Na4 : (w1.alloc (Obj.cells #[.bool true, .bool t, .string z, .string y] 44)).cell? ⟨w.heap.size, 4, none⟩ = some (.slice p n cp) := N.a 4
  have Nb0 : (w1.alloc (Obj.cells #[.bool true, .bool t, .string z, .string y] 44)).cell? ⟨w.heap.size + 1, 0, none⟩ = some (.string nm) := N.b 0
  have Nb1 : (w1.alloc (Obj.cells #[.bool true, .bool t, .string z, .string y] 44)).cell? ⟨w.heap.size + 1, 1, none⟩ = some (.slice q m cq) := N.b 1
  have Nb2 : (w1.alloc (Obj.cells #[.bool true, .bool t, .string z, .string y] 44)).cell? ⟨w.heap.size + 1, 2, none⟩ = some (.string bu) := N.b 2
  have Nb3 : (w1.alloc (Obj.cells #[.bool true, .bool t, .string z, .string y] 44)).cell? ⟨w.heap.size + 1, 3, none⟩ = some (.slice s k cs) := N.b 3
  have Nb4 : (w1.alloc (Obj.cells #[.bool true, .bool t, .string z, .string y] 44)).cell? ⟨w.heap.size + 1, 4, none⟩ = some (.int .i64 0) := N.b 4
  have Nb5 : (w1.alloc (Obj.cells #[.bool true, .bool t, .string z, .string y] 44)).cell? ⟨w.heap.size + 1, 5, none⟩ = some (.int .i64 at_) := N.b 5
  go_wp2_with fail
  refine (hR.out _ N.bl).mono ?_
  rintro e w2 ⟨rfl, hB2⟩
  have N2 := N.next hB2
  have hl2 := N2.l2
  have hlb2 : w.heap.size + 1 < w2.heap.size := by have := N2.l1; omega
  have hlc2 : w.heap.size < w2.heap.size := by omega
  clear hB2
  have N2a0 : w2.cell? ⟨w.heap.size, 0, none⟩ = some (.string os) := N2.a 0
  have N2a1 : w2.cell? ⟨w.heap.size, 1, none⟩ = some (.string arch) := N2.a 1
  have N2a2 : w2.cell? ⟨w.heap.size, 2, none⟩ = some (.bool cgo) := N2.a 2
  have N2a3 : w2.cell? ⟨w.heap.size, 3, none⟩ = some (.int .i64 lv) := N2.a 3
  have N2a4 : w2.cell? ⟨w.heap.size, 4, none⟩ = some (.slice p n cp) := N2.a 4
  have N2b0 : w2.cell? ⟨w.heap.size + 1, 0, none⟩ = some (.string nm) := N2.b 0
  have N2b1 : w2.cell? ⟨w.heap.size + 1, 1, none⟩ = some (.slice q m cq) := N2.b 1
  have N2b2 : w2.cell? ⟨w.heap.size + 1, 2, none⟩ = some (.string bu) := N2.b 2
  have N2b3 : w2.cell? ⟨w.heap.size + 1, 3, none⟩ = some (.slice s k cs) := N2.b 3
  have N2b4 : w2.cell? ⟨w.heap.size + 1, 4, none⟩ = some (.int .i64 0) := N2.b 4
  have N2b5 : w2.cell? ⟨w.heap.size + 1, 5, none⟩ = some (.int .i64 at_) := N2.b 5
  have N2c0 : w2.cell? ⟨w1.heap.size, 0, none⟩ = some (.bool true) := N2.c 0
  have N2c1 : w2.cell? ⟨w1.heap.size, 1, none⟩ = some (.bool t) := N2.c 1
  have N2c2 : w2.cell? ⟨w1.heap.size, 2, none⟩ = some (.string z) := N2.c 2
  have N2c3 : w2.cell? ⟨w1.heap.size, 3, none⟩ = some (.string y) := N2.c 3
  go_wp2_with fail
  go_ret2
  exact ⟨rfl, N2.bl⟩
set_option maxRecDepth 100000 in
set_option maxHeartbeats 2000000 in
theorem in_YN_n (os arch nm bu z y file : ByteArray) (cgo t x : Bool) (lv er at_ : Int) (p q s : Option Addr) (n m k cp cq cs : Nat) (w : World) (HO : Hid (∀ w1, Below w.heap.size w w1 → Calls Tryz.prog 17 #[.string file] w1 fun e w' => e = .returned (.agg #[.bool true, .bool t, .string z, .string y]) ∧ Below w1.heap.size w1 w')) (hO : Hid (∀ w1, Below w.heap.size w w1 → Calls Tryz.prog 8 #[.agg #[.string os, .string arch, .bool cgo, .int .i64 lv, .slice p n cp], .string z] w1 fun e w' => e = .returned (.bool true) ∧ Below w1.heap.size w1 w')) (ho : z.toList.isEmpty = false) (hR : Hid (∀ w1, Below w.heap.size w w1 → Calls Tryz.prog 8 #[.agg #[.string os, .string arch, .bool cgo, .int .i64 lv, .slice p n cp], .string y] w1 fun e w' => e = .returned (.bool false) ∧ Below w1.heap.size w1 w')) (hr : y.toList.isEmpty = false) :
    Calls Tryz.prog 10 #[.agg #[.string os, .string arch, .bool cgo, .int .i64 lv, .slice p n cp], .string file, .agg #[.string nm, .slice q m cq, .string bu, .slice s k cs, .int .i64 0, .int .i64 at_]] w fun e w' => e = .returned (.tuple #[(.int .i64 0), (.int .i64 0)]) ∧ Below w.heap.size w w' := by
  have M0 := mem2_new w #[.string os, .string arch, .bool cgo, .int .i64 lv, .slice p n cp] #[.string nm, .slice q m cq, .string bu, .slice s k cs, .int .i64 0, .int .i64 at_] 24 33
  have M0b := M0.bl
  go_enter Tryz.func10, Tryz.ntmps10
  go_wp2_with fail
  refine (HO.out _ M0b).mono ?_
  rintro e w1 ⟨rfl, hB1⟩
  have M1 := M0.next hB1
  have hl1 := M1.l
  have hl0 : w.heap.size < w1.heap.size := by omega
  have M1a0 : w1.cell? ⟨w.heap.size, 0, none⟩ = some (.string os) := M1.a 0
  have M1a1 : w1.cell? ⟨w.heap.size, 1, none⟩ = some (.string arch) := M1.a 1
  have M1a2 : w1.cell? ⟨w.heap.size, 2, none⟩ = some (.bool cgo) := M1.a 2
  have M1a3 : w1.cell? ⟨w.heap.size, 3, none⟩ = some (.int .i64 lv) := M1.a 3
  have M1a4 : w1.cell? ⟨w.heap.size, 4, none⟩ = some (.slice p n cp) := M1.a 4
  have M1b0 : w1.cell? ⟨w.heap.size + 1, 0, none⟩ = some (.string nm) := M1.b 0
  have M1b1 : w1.cell? ⟨w.heap.size + 1, 1, none⟩ = some (.slice q m cq) := M1.b 1
  have M1b2 : w1.cell? ⟨w.heap.size + 1, 2, none⟩ = some (.string bu) := M1.b 2
  have M1b3 : w1.cell? ⟨w.heap.size + 1, 3, none⟩ = some (.slice s k cs) := M1.b 3
  have M1b4 : w1.cell? ⟨w.heap.size + 1, 4, none⟩ = some (.int .i64 0) := M1.b 4
  have M1b5 : w1.cell? ⟨w.heap.size + 1, 5, none⟩ = some (.int .i64 at_) := M1.b 5
  have N := M1.more #[.bool true, .bool t, .string z, .string y] 44
  clear hB1 M0 M0b
  have Na0 : (w1.alloc (Obj.cells #[.bool true, .bool t, .string z, .string y] 44)).cell? ⟨w.heap.size, 0, none⟩ = some (.string os) := N.a 0
  have Na1 : (w1.alloc (Obj.cells #[.bool true, .bool t, .string z, .string y] 44)).cell? ⟨w.heap.size, 1, none⟩ = some (.string arch) := N.a 1
  have Na2 : (w1.alloc (Obj.cells #[.bool true, .bool t, .string z, .string y] 44)).cell? ⟨w.heap.size, 2, none⟩ = some (.bool cgo) := N.a 2
  have Na3 : (w1.alloc (Obj.cells #[.bool true, .bool t, .string z, .string y] 44)).cell? ⟨w.heap.size, 3, none⟩ = some (.int .i64 lv) := N.a 3
  have Na4 : (w1.alloc (Obj.cells #[.bool true, .bool t, .string z, .string y] 44)).cell? ⟨w.heap.size, 4, none⟩ = some (.slice p n cp) := N.a 4
  have Nb0 : (w1.alloc (Obj.cells #[.bool true, .bool t, .string z, .string y] 44)).cell? ⟨w.heap.size + 1, 0, none⟩ = some (.string nm) := N.b 0
  have Nb1 : (w1.alloc (Obj.cells #[.bool true, .bool t, .string z, .string y] 44)).cell? ⟨w.heap.size + 1, 1, none⟩ = some (.slice q m cq) := N.b 1
  have Nb2 : (w1.alloc (Obj.cells #[.bool true, .bool t, .string z, .string y] 44)).cell? ⟨w.heap.size + 1, 2, none⟩ = some (.string bu) := N.b 2
  have Nb3 : (w1.alloc (Obj.cells #[.bool true, .bool t, .string z, .string y] 44)).cell? ⟨w.heap.size + 1, 3, none⟩ = some (.slice s k cs) := N.b 3
  have Nb4 : (w1.alloc (Obj.cells #[.bool true, .bool t, .string z, .string y] 44)).cell? ⟨w.heap.size + 1, 4, none⟩ = some (.int .i64 0) := N.b 4
  have Nb5 : (w1.alloc (Obj.cells #[.bool true, .bool t, .string z, .string y] 44)).cell? ⟨w.heap.size + 1, 5, none⟩ = some (.int .i64 at_) := N.b 5
  go_wp2_with fail
  refine (hO.out _ N.bl).mono ?_
  rintro e w2 ⟨rfl, hB2⟩
  have N2 := N.next hB2
  have hl2 := N2.l2
  have hlb2 : w.heap.size + 1 < w2.heap.size := by have := N2.l1; omega
  have hlc2 : w.heap.size < w2.heap.size := by omega
  clear hB2
  have N2a0 : w2.cell? ⟨w.heap.size, 0, none⟩ = some (.string os) := N2.a 0
  have N2a1 : w2.cell? ⟨w.heap.size, 1, none⟩ = some (.string arch) := N2.a 1
  have N2a2 : w2.cell? ⟨w.heap.size, 2, none⟩ = some (.bool cgo) := N2.a 2
  have N2a3 : w2.cell? ⟨w.heap.size, 3, none⟩ = some (.int .i64 lv) := N2.a 3
  have N2a4 : w2.cell? ⟨w.heap.size, 4, none⟩ = some (.slice p n cp) := N2.a 4
  have N2b0 : w2.cell? ⟨w.heap.size + 1, 0, none⟩ = some (.string nm) := N2.b 0
  have N2b1 : w2.cell? ⟨w.heap.size + 1, 1, none⟩ = some (.slice q m cq) := N2.b 1
  have N2b2 : w2.cell? ⟨w.heap.size + 1, 2, none⟩ = some (.string bu) := N2.b 2
  have N2b3 : w2.cell? ⟨w.heap.size + 1, 3, none⟩ = some (.slice s k cs) := N2.b 3
  have N2b4 : w2.cell? ⟨w.heap.size + 1, 4, none⟩ = some (.int .i64 0) := N2.b 4
  have N2b5 : w2.cell? ⟨w.heap.size + 1, 5, none⟩ = some (.int .i64 at_) := N2.b 5
  have N2c0 : w2.cell? ⟨w1.heap.size, 0, none⟩ = some (.bool true) := N2.c 0
  have N2c1 : w2.cell? ⟨w1.heap.size, 1, none⟩ = some (.bool t) := N2.c 1
  have N2c2 : w2.cell? ⟨w1.heap.size, 2, none⟩ = some (.string z) := N2.c 2
  have N2c3 : w2.cell? ⟨w1.heap.size, 3, none⟩ = some (.string y) := N2.c 3
  go_wp2_with fail
  refine (hR.out _ N2.bl).mono ?_
  rintro e w3 ⟨rfl, hB3⟩
  have N3 := N2.next hB3
  have hl3 := N3.l2
  have hlb3 : w.heap.size + 1 < w3.heap.size := by have := N3.l1; omega
  have hlc3 : w.heap.size < w3.heap.size := by omega
  clear hB3
  have N3a0 : w3.cell? ⟨w.heap.size, 0, none⟩ = some (.string os) := N3.a 0
  have N3a1 : w3.cell? ⟨w.heap.size, 1, none⟩ = some (.string arch) := N3.a 1
  have N3a2 : w3.cell? ⟨w.heap.size, 2, none⟩ = some (.bool cgo) := N3.a 2
  have N3a3 : w3.cell? ⟨w.heap.size, 3, none⟩ = some (.int .i64 lv) := N3.a 3
  have N3a4 : w3.cell? ⟨w.heap.size, 4, none⟩ = some (.slice p n cp) := N3.a 4
  have N3b0 : w3.cell? ⟨w.heap.size + 1, 0, none⟩ = some (.string nm) := N3.b 0
  have N3b1 : w3.cell? ⟨w.heap.size + 1, 1, none⟩ = some (.slice q m cq) := N3.b 1
  have N3b2 : w3.cell? ⟨w.heap.size + 1, 2, none⟩ = some (.string bu) := N3.b 2
  have N3b3 : w3.cell? ⟨w.heap.size + 1, 3, none⟩ = some (.slice s k cs) := N3.b 3
  have N3b4 : w3.cell? ⟨w.heap.size + 1, 4, none⟩ = some (.int .i64 0) := N3.b 4
  have N3b5 : w3.cell? ⟨w.heap.size + 1, 5, none⟩ = some (.int .i64 at_) := N3.b 5
  have N3c0 : w3.cell? ⟨w1.heap.size, 0, none⟩ = some (.bool true) := N3.c 0
  have N3c1 : w3.cell? ⟨w1.heap.size, 1, none⟩ = some (.bool t) := N3.c 1
  have N3c2 : w3.cell? ⟨w1.heap.size, 2, none⟩ = some (.string z) := N3.c 2
  have N3c3 : w3.cell? ⟨w1.heap.size, 3, none⟩ = some (.string y) := N3.c 3
  go_wp2_with fail
  go_ret2
  exact ⟨rfl, N3.bl⟩
set_option maxRecDepth 100000 in
set_option maxHeartbeats 2000000 in
theorem in_EE_e (os arch nm bu z y file : ByteArray) (cgo t x : Bool) (lv er at_ : Int) (p q s : Option Addr) (n m k cp cq cs : Nat) (w : World) (HO : Hid (∀ w1, Below w.heap.size w w1 → Calls Tryz.prog 17 #[.string file] w1 fun e w' => e = .returned (.agg #[.bool true, .bool t, .string z, .string y]) ∧ Below w1.heap.size w1 w')) (ho : z.toList.isEmpty = true) (hr : y.toList.isEmpty = true) (HH : Hid (∀ w1, Below w.heap.size w w1 → Calls Tryz.prog 19 #[.agg #[.string os, .string arch, .bool cgo, .int .i64 lv, .slice p n cp], .string bu] w1 fun e w' => e = .returned (.tuple #[.bool x, .int .i64 er]) ∧ Below w1.heap.size w1 w')) (her : (er != 0) = true) (kn : Int) (HF : Hid (∀ w1, Calls Tryz.prog 18 #[.agg #[.bool true, .bool t, .string z, .string y]] w1 fun e w' => e = .returned (.int .i64 kn) ∧ Below w1.heap.size w1 w')) :
    Calls Tryz.prog 10 #[.agg #[.string os, .string arch, .bool cgo, .int .i64 lv, .slice p n cp], .string file, .agg #[.string nm, .slice q m cq, .string bu, .slice s k cs, .int .i64 0, .int .i64 at_]] w fun e w' => e = .returned (.tuple #[(.int .i64 kn), (.int .i64 4)]) ∧ Below w.heap.size w w' := by
  have M0 := mem2_new w #[.string os, .string arch, .bool cgo, .int .i64 lv, .slice p n cp] #[.string nm, .slice q m cq, .string bu, .slice s k cs, .int .i64 0, .int .i64 at_] 24 33
  have M0b := M0.bl
  go_enter Tryz.func10, Tryz.ntmps10
  go_wp2_with fail
  refine (HO.out _ M0b).mono ?_
  rintro e w1 ⟨rfl, hB1⟩
  have M1 := M0.next hB1
  have hl1 := M1.l
  have hl0 : w.heap.size < w1.heap.size := by omega
  have M1a0 : w1.cell? ⟨w.heap.size, 0, none⟩ = some (.string os) := M1.a 0
  have M1a1 : w1.cell? ⟨w.heap.size, 1, none⟩ = some (.string arch) := M1.a 1
  have M1a2 : w1.cell? ⟨w.heap.size, 2, none⟩ = some (.bool cgo) := M1.a 2
  have M1a3 : w1.cell? ⟨w.heap.size, 3, none⟩ = some (.int .i64 lv) := M1.a 3
  have M1a4 : w1.cell? ⟨w.heap.size, 4, none⟩ = some (.slice p n cp) := M1.a 4
  have M1b0 : w1.cell? ⟨w.heap.size + 1, 0, none⟩ = some (.string nm) := M1.b 0
  have M1b1 : w1.cell? ⟨w.heap.size + 1, 1, none⟩ = some (.slice q m cq) := M1.b 1
  have M1b2 : w1.cell? ⟨w.heap.size + 1, 2, none⟩ = some (.string bu) := M1.b 2
  have M1b3 : w1.cell? ⟨w.heap.size + 1, 3, none⟩ = some (.slice s k cs) := M1.b 3
  have M1b4 : w1.cell? ⟨w.heap.size + 1, 4, none⟩ = some (.int .i64 0) := M1.b 4
  have M1b5 : w1.cell? ⟨w.heap.size + 1, 5, none⟩ = some (.int .i64 at_) := M1.b 5
  have N := M1.more #[.bool true, .bool t, .string z, .string y] 44
  clear hB1 M0 M0b
  have Na0 : (w1.alloc (Obj.cells #[.bool true, .bool t, .string z, .string y] 44)).cell? ⟨w.heap.size, 0, none⟩ = some (.string os) := N.a 0
  have Na1 : (w1.alloc (Obj.cells #[.bool true, .bool t, .string z, .string y] 44)).cell? ⟨w.heap.size, 1, none⟩ = some (.string arch) := N.a 1
  have Na2 : (w1.alloc (Obj.cells #[.bool true, .bool t, .string z, .string y] 44)).cell? ⟨w.heap.size, 2, none⟩ = some (.bool cgo) := N.a 2
  have Na3 : (w1.alloc (Obj.cells #[.bool true, .bool t, .string z, .string y] 44)).cell? ⟨w.heap.size, 3, none⟩ = some (.int .i64 lv) := N.a 3
  have Na4 : (w1.alloc (Obj.cells #[.bool true, .bool t, .string z, .string y] 44)).cell? ⟨w.heap.size, 4, none⟩ = some (.slice p n cp) := N.a 4
  have Nb0 : (w1.alloc (Obj.cells #[.bool true, .bool t, .string z, .string y] 44)).cell? ⟨w.heap.size + 1, 0, none⟩ = some (.string nm) := N.b 0
  have Nb1 : (w1.alloc (Obj.cells #[.bool true, .bool t, .string z, .string y] 44)).cell? ⟨w.heap.size + 1, 1, none⟩ = some (.slice q m cq) := N.b 1
  have Nb2 : (w1.alloc (Obj.cells #[.bool true, .bool t, .string z, .string y] 44)).cell? ⟨w.heap.size + 1, 2, none⟩ = some (.string bu) := N.b 2
  have Nb3 : (w1.alloc (Obj.cells #[.bool true, .bool t, .string z, .string y] 44)).cell? ⟨w.heap.size + 1, 3, none⟩ = some (.slice s k cs) := N.b 3
  have Nb4 : (w1.alloc (Obj.cells #[.bool true, .bool t, .string z, .string y] 44)).cell? ⟨w.heap.size + 1, 4, none⟩ = some (.int .i64 0) := N.b 4
  have Nb5 : (w1.alloc (Obj.cells #[.bool true, .bool t, .string z, .string y] 44)).cell? ⟨w.heap.size + 1, 5, none⟩ = some (.int .i64 at_) := N.b 5
  go_wp2_with fail
  refine (HH.out _ N.bl).mono ?_
  rintro e w2 ⟨rfl, hB2⟩
  have N2 := N.next hB2
  have hl2 := N2.l2
  have hlb2 : w.heap.size + 1 < w2.heap.size := by have := N2.l1; omega
  have hlc2 : w.heap.size < w2.heap.size := by omega
  clear hB2
  have N2a0 : w2.cell? ⟨w.heap.size, 0, none⟩ = some (.string os) := N2.a 0
  have N2a1 : w2.cell? ⟨w.heap.size, 1, none⟩ = some (.string arch) := N2.a 1
  have N2a2 : w2.cell? ⟨w.heap.size, 2, none⟩ = some (.bool cgo) := N2.a 2
  have N2a3 : w2.cell? ⟨w.heap.size, 3, none⟩ = some (.int .i64 lv) := N2.a 3
  have N2a4 : w2.cell? ⟨w.heap.size, 4, none⟩ = some (.slice p n cp) := N2.a 4
  have N2b0 : w2.cell? ⟨w.heap.size + 1, 0, none⟩ = some (.string nm) := N2.b 0
  have N2b1 : w2.cell? ⟨w.heap.size + 1, 1, none⟩ = some (.slice q m cq) := N2.b 1
  have N2b2 : w2.cell? ⟨w.heap.size + 1, 2, none⟩ = some (.string bu) := N2.b 2
  have N2b3 : w2.cell? ⟨w.heap.size + 1, 3, none⟩ = some (.slice s k cs) := N2.b 3
  have N2b4 : w2.cell? ⟨w.heap.size + 1, 4, none⟩ = some (.int .i64 0) := N2.b 4
  have N2b5 : w2.cell? ⟨w.heap.size + 1, 5, none⟩ = some (.int .i64 at_) := N2.b 5
  have N2c0 : w2.cell? ⟨w1.heap.size, 0, none⟩ = some (.bool true) := N2.c 0
  have N2c1 : w2.cell? ⟨w1.heap.size, 1, none⟩ = some (.bool t) := N2.c 1
  have N2c2 : w2.cell? ⟨w1.heap.size, 2, none⟩ = some (.string z) := N2.c 2
  have N2c3 : w2.cell? ⟨w1.heap.size, 3, none⟩ = some (.string y) := N2.c 3
  go_wp2_with fail
  refine (HF.out _).mono ?_
  rintro e w3 ⟨rfl, hB3⟩
  have N3 := N2.next hB3
  have hl3 := N3.l2
  have hlb3 : w.heap.size + 1 < w3.heap.size := by have := N3.l1; omega
  have hlc3 : w.heap.size < w3.heap.size := by omega
  clear hB3
  have N3a0 : w3.cell? ⟨w.heap.size, 0, none⟩ = some (.string os) := N3.a 0
  have N3a1 : w3.cell? ⟨w.heap.size, 1, none⟩ = some (.string arch) := N3.a 1
  have N3a2 : w3.cell? ⟨w.heap.size, 2, none⟩ = some (.bool cgo) := N3.a 2
  have N3a3 : w3.cell? ⟨w.heap.size, 3, none⟩ = some (.int .i64 lv) := N3.a 3
  have N3a4 : w3.cell? ⟨w.heap.size, 4, none⟩ = some (.slice p n cp) := N3.a 4
  have N3b0 : w3.cell? ⟨w.heap.size + 1, 0, none⟩ = some (.string nm) := N3.b 0
  have N3b1 : w3.cell? ⟨w.heap.size + 1, 1, none⟩ = some (.slice q m cq) := N3.b 1
  have N3b2 : w3.cell? ⟨w.heap.size + 1, 2, none⟩ = some (.string bu) := N3.b 2
  have N3b3 : w3.cell? ⟨w.heap.size + 1, 3, none⟩ = some (.slice s k cs) := N3.b 3
  have N3b4 : w3.cell? ⟨w.heap.size + 1, 4, none⟩ = some (.int .i64 0) := N3.b 4
  have N3b5 : w3.cell? ⟨w.heap.size + 1, 5, none⟩ = some (.int .i64 at_) := N3.b 5
  have N3c0 : w3.cell? ⟨w1.heap.size, 0, none⟩ = some (.bool true) := N3.c 0
  have N3c1 : w3.cell? ⟨w1.heap.size, 1, none⟩ = some (.bool t) := N3.c 1
  have N3c2 : w3.cell? ⟨w1.heap.size, 2, none⟩ = some (.string z) := N3.c 2
  have N3c3 : w3.cell? ⟨w1.heap.size, 3, none⟩ = some (.string y) := N3.c 3
  go_wp2_with fail
  go_ret2
  exact ⟨rfl, N3.bl⟩
set_option maxRecDepth 100000 in
set_option maxHeartbeats 2000000 in
theorem in_EE_f (os arch nm bu z y file : ByteArray) (cgo t x : Bool) (lv er at_ : Int) (p q s : Option Addr) (n m k cp cq cs : Nat) (w : World) (HO : Hid (∀ w1, Below w.heap.size w w1 → Calls Tryz.prog 17 #[.string file] w1 fun e w' => e = .returned (.agg #[.bool true, .bool t, .string z, .string y]) ∧ Below w1.heap.size w1 w')) (ho : z.toList.isEmpty = true) (hr : y.toList.isEmpty = true) (HH : Hid (∀ w1, Below w.heap.size w w1 → Calls Tryz.prog 19 #[.agg #[.string os, .string arch, .bool cgo, .int .i64 lv, .slice p n cp], .string bu] w1 fun e w' => e = .returned (.tuple #[.bool false, .int .i64 0]) ∧ Below w1.heap.size w1 w')) :
    Calls Tryz.prog 10 #[.agg #[.string os, .string arch, .bool cgo, .int .i64 lv, .slice p n cp], .string file, .agg #[.string nm, .slice q m cq, .string bu, .slice s k cs, .int .i64 0, .int .i64 at_]] w fun e w' => e = .returned (.tuple #[(.int .i64 0), (.int .i64 0)]) ∧ Below w.heap.size w w' := by
  have M0 := mem2_new w #[.string os, .string arch, .bool cgo, .int .i64 lv, .slice p n cp] #[.string nm, .slice q m cq, .string bu, .slice s k cs, .int .i64 0, .int .i64 at_] 24 33
  have M0b := M0.bl
  go_enter Tryz.func10, Tryz.ntmps10
  go_wp2_with fail
  refine (HO.out _ M0b).mono ?_
  rintro e w1 ⟨rfl, hB1⟩
  have M1 := M0.next hB1
  have hl1 := M1.l
  have hl0 : w.heap.size < w1.heap.size := by omega
  have M1a0 : w1.cell? ⟨w.heap.size, 0, none⟩ = some (.string os) := M1.a 0
  have M1a1 : w1.cell? ⟨w.heap.size, 1, none⟩ = some (.string arch) := M1.a 1
  have M1a2 : w1.cell? ⟨w.heap.size, 2, none⟩ = some (.bool cgo) := M1.a 2
  have M1a3 : w1.cell? ⟨w.heap.size, 3, none⟩ = some (.int .i64 lv) := M1.a 3
  have M1a4 : w1.cell? ⟨w.heap.size, 4, none⟩ = some (.slice p n cp) := M1.a 4
  have M1b0 : w1.cell? ⟨w.heap.size + 1, 0, none⟩ = some (.string nm) := M1.b 0
  have M1b1 : w1.cell? ⟨w.heap.size + 1, 1, none⟩ = some (.slice q m cq) := M1.b 1
  have M1b2 : w1.cell? ⟨w.heap.size + 1, 2, none⟩ = some (.string bu) := M1.b 2
  have M1b3 : w1.cell? ⟨w.heap.size + 1, 3, none⟩ = some (.slice s k cs) := M1.b 3
  have M1b4 : w1.cell? ⟨w.heap.size + 1, 4, none⟩ = some (.int .i64 0) := M1.b 4
  have M1b5 : w1.cell? ⟨w.heap.size + 1, 5, none⟩ = some (.int .i64 at_) := M1.b 5
  have N := M1.more #[.bool true, .bool t, .string z, .string y] 44
  clear hB1 M0 M0b
  have Na0 : (w1.alloc (Obj.cells #[.bool true, .bool t, .string z, .string y] 44)).cell? ⟨w.heap.size, 0, none⟩ = some (.string os) := N.a 0
  have Na1 : (w1.alloc (Obj.cells #[.bool true, .bool t, .string z, .string y] 44)).cell? ⟨w.heap.size, 1, none⟩ = some (.string arch) := N.a 1
  have Na2 : (w1.alloc (Obj.cells #[.bool true, .bool t, .string z, .string y] 44)).cell? ⟨w.heap.size, 2, none⟩ = some (.bool cgo) := N.a 2
  have Na3 : (w1.alloc (Obj.cells #[.bool true, .bool t, .string z, .string y] 44)).cell? ⟨w.heap.size, 3, none⟩ = some (.int .i64 lv) := N.a 3
  have Na4 : (w1.alloc (Obj.cells #[.bool true, .bool t, .string z, .string y] 44)).cell? ⟨w.heap.size, 4, none⟩ = some (.slice p n cp) := N.a 4
  have Nb0 : (w1.alloc (Obj.cells #[.bool true, .bool t, .string z, .string y] 44)).cell? ⟨w.heap.size + 1, 0, none⟩ = some (.string nm) := N.b 0
  have Nb1 : (w1.alloc (Obj.cells #[.bool true, .bool t, .string z, .string y] 44)).cell? ⟨w.heap.size + 1, 1, none⟩ = some (.slice q m cq) := N.b 1
  have Nb2 : (w1.alloc (Obj.cells #[.bool true, .bool t, .string z, .string y] 44)).cell? ⟨w.heap.size + 1, 2, none⟩ = some (.string bu) := N.b 2
  have Nb3 : (w1.alloc (Obj.cells #[.bool true, .bool t, .string z, .string y] 44)).cell? ⟨w.heap.size + 1, 3, none⟩ = some (.slice s k cs) := N.b 3
  have Nb4 : (w1.alloc (Obj.cells #[.bool true, .bool t, .string z, .string y] 44)).cell? ⟨w.heap.size + 1, 4, none⟩ = some (.int .i64 0) := N.b 4
  have Nb5 : (w1.alloc (Obj.cells #[.bool true, .bool t, .string z, .string y] 44)).cell? ⟨w.heap.size + 1, 5, none⟩ = some (.int .i64 at_) := N.b 5
  go_wp2_with fail
  refine (HH.out _ N.bl).mono ?_
  rintro e w2 ⟨rfl, hB2⟩
  have N2 := N.next hB2
  have hl2 := N2.l2
  have hlb2 : w.heap.size + 1 < w2.heap.size := by have := N2.l1; omega
  have hlc2 : w.heap.size < w2.heap.size := by omega
  clear hB2
  have N2a0 : w2.cell? ⟨w.heap.size, 0, none⟩ = some (.string os) := N2.a 0
  have N2a1 : w2.cell? ⟨w.heap.size, 1, none⟩ = some (.string arch) := N2.a 1
  have N2a2 : w2.cell? ⟨w.heap.size, 2, none⟩ = some (.bool cgo) := N2.a 2
  have N2a3 : w2.cell? ⟨w.heap.size, 3, none⟩ = some (.int .i64 lv) := N2.a 3
  have N2a4 : w2.cell? ⟨w.heap.size, 4, none⟩ = some (.slice p n cp) := N2.a 4
  have N2b0 : w2.cell? ⟨w.heap.size + 1, 0, none⟩ = some (.string nm) := N2.b 0
  have N2b1 : w2.cell? ⟨w.heap.size + 1, 1, none⟩ = some (.slice q m cq) := N2.b 1
  have N2b2 : w2.cell? ⟨w.heap.size + 1, 2, none⟩ = some (.string bu) := N2.b 2
  have N2b3 : w2.cell? ⟨w.heap.size + 1, 3, none⟩ = some (.slice s k cs) := N2.b 3
  have N2b4 : w2.cell? ⟨w.heap.size + 1, 4, none⟩ = some (.int .i64 0) := N2.b 4
  have N2b5 : w2.cell? ⟨w.heap.size + 1, 5, none⟩ = some (.int .i64 at_) := N2.b 5
  have N2c0 : w2.cell? ⟨w1.heap.size, 0, none⟩ = some (.bool true) := N2.c 0
  have N2c1 : w2.cell? ⟨w1.heap.size, 1, none⟩ = some (.bool t) := N2.c 1
  have N2c2 : w2.cell? ⟨w1.heap.size, 2, none⟩ = some (.string z) := N2.c 2
  have N2c3 : w2.cell? ⟨w1.heap.size, 3, none⟩ = some (.string y) := N2.c 3
  go_wp2_with fail
  go_ret2
  exact ⟨rfl, N2.bl⟩
set_option maxRecDepth 100000 in
set_option maxHeartbeats 2000000 in
theorem in_EE_g (os arch nm bu z y file : ByteArray) (t x : Bool) (lv er at_ : Int) (p q s : Option Addr) (n m k cp cq cs : Nat) (w : World) (HO : Hid (∀ w1, Below w.heap.size w w1 → Calls Tryz.prog 17 #[.string file] w1 fun e w' => e = .returned (.agg #[.bool true, .bool t, .string z, .string y]) ∧ Below w1.heap.size w1 w')) (ho : z.toList.isEmpty = true) (hr : y.toList.isEmpty = true) (HH : Hid (∀ w1, Below w.heap.size w w1 → Calls Tryz.prog 19 #[.agg #[.string os, .string arch, .bool true, .int .i64 lv, .slice p n cp], .string bu] w1 fun e w' => e = .returned (.tuple #[.bool true, .int .i64 0]) ∧ Below w1.heap.size w1 w')) (vn : Int) (HV : Hid (∀ w1, Calls Tryz.prog 22 #[.agg #[.bool true, .bool t, .string z, .string y], .string nm] w1 fun e w' => e = .returned (.int .i64 vn) ∧ Below w1.heap.size w1 w')) :
    Calls Tryz.prog 10 #[.agg #[.string os, .string arch, .bool true, .int .i64 lv, .slice p n cp], .string file, .agg #[.string nm, .slice q m cq, .string bu, .slice s k cs, .int .i64 0, .int .i64 at_]] w fun e w' => e = .returned (.tuple #[(.int .i64 vn), (.int .i64 0)]) ∧ Below w.heap.size w w' := by
  have M0 := mem2_new w #[.string os, .string arch, .bool true, .int .i64 lv, .slice p n cp] #[.string nm, .slice q m cq, .string bu, .slice s k cs, .int .i64 0, .int .i64 at_] 24 33
  have M0b := M0.bl
  go_enter Tryz.func10, Tryz.ntmps10
  go_wp2_with fail
  refine (HO.out _ M0b).mono ?_
  rintro e w1 ⟨rfl, hB1⟩
  have M1 := M0.next hB1
  have hl1 := M1.l
  have hl0 : w.heap.size < w1.heap.size := by omega
  have M1a0 : w1.cell? ⟨w.heap.size, 0, none⟩ = some (.string os) := M1.a 0
  have M1a1 : w1.cell? ⟨w.heap.size, 1, none⟩ = some (.string arch) := M1.a 1
  have M1a2 : w1.cell? ⟨w.heap.size, 2, none⟩ = some (.bool true) := M1.a 2
  have M1a3 : w1.cell? ⟨w.heap.size, 3, none⟩ = some (.int .i64 lv) := M1.a 3
  have M1a4 : w1.cell? ⟨w.heap.size, 4, none⟩ = some (.slice p n cp) := M1.a 4
  have M1b0 : w1.cell? ⟨w.heap.size + 1, 0, none⟩ = some (.string nm) := M1.b 0
  have M1b1 : w1.cell? ⟨w.heap.size + 1, 1, none⟩ = some (.slice q m cq) := M1.b 1
  have M1b2 : w1.cell? ⟨w.heap.size + 1, 2, none⟩ = some (.string bu) := M1.b 2
  have M1b3 : w1.cell? ⟨w.heap.size + 1, 3, none⟩ = some (.slice s k cs) := M1.b 3
  have M1b4 : w1.cell? ⟨w.heap.size + 1, 4, none⟩ = some (.int .i64 0) := M1.b 4
  have M1b5 : w1.cell? ⟨w.heap.size + 1, 5, none⟩ = some (.int .i64 at_) := M1.b 5
  have N := M1.more #[.bool true, .bool t, .string z, .string y] 44
  clear hB1 M0 M0b
  have Na0 : (w1.alloc (Obj.cells #[.bool true, .bool t, .string z, .string y] 44)).cell? ⟨w.heap.size, 0, none⟩ = some (.string os) := N.a 0
  have Na1 : (w1.alloc (Obj.cells #[.bool true, .bool t, .string z, .string y] 44)).cell? ⟨w.heap.size, 1, none⟩ = some (.string arch) := N.a 1
  have Na2 : (w1.alloc (Obj.cells #[.bool true, .bool t, .string z, .string y] 44)).cell? ⟨w.heap.size, 2, none⟩ = some (.bool true) := N.a 2
  have Na3 : (w1.alloc (Obj.cells #[.bool true, .bool t, .string z, .string y] 44)).cell? ⟨w.heap.size, 3, none⟩ = some (.int .i64 lv) := N.a 3
  have Na4 : (w1.alloc (Obj.cells #[.bool true, .bool t, .string z, .string y] 44)).cell? ⟨w.heap.size, 4, none⟩ = some (.slice p n cp) := N.a 4
  have Nb0 : (w1.alloc (Obj.cells #[.bool true, .bool t, .string z, .string y] 44)).cell? ⟨w.heap.size + 1, 0, none⟩ = some (.string nm) := N.b 0
  have Nb1 : (w1.alloc (Obj.cells #[.bool true, .bool t, .string z, .string y] 44)).cell? ⟨w.heap.size + 1, 1, none⟩ = some (.slice q m cq) := N.b 1
  have Nb2 : (w1.alloc (Obj.cells #[.bool true, .bool t, .string z, .string y] 44)).cell? ⟨w.heap.size + 1, 2, none⟩ = some (.string bu) := N.b 2
  have Nb3 : (w1.alloc (Obj.cells #[.bool true, .bool t, .string z, .string y] 44)).cell? ⟨w.heap.size + 1, 3, none⟩ = some (.slice s k cs) := N.b 3
  have Nb4 : (w1.alloc (Obj.cells #[.bool true, .bool t, .string z, .string y] 44)).cell? ⟨w.heap.size + 1, 4, none⟩ = some (.int .i64 0) := N.b 4
  have Nb5 : (w1.alloc (Obj.cells #[.bool true, .bool t, .string z, .string y] 44)).cell? ⟨w.heap.size + 1, 5, none⟩ = some (.int .i64 at_) := N.b 5
  go_wp2_with fail
  refine (HH.out _ N.bl).mono ?_
  rintro e w2 ⟨rfl, hB2⟩
  have N2 := N.next hB2
  have hl2 := N2.l2
  have hlb2 : w.heap.size + 1 < w2.heap.size := by have := N2.l1; omega
  have hlc2 : w.heap.size < w2.heap.size := by omega
  clear hB2
  have N2a0 : w2.cell? ⟨w.heap.size, 0, none⟩ = some (.string os) := N2.a 0
  have N2a1 : w2.cell? ⟨w.heap.size, 1, none⟩ = some (.string arch) := N2.a 1
  have N2a2 : w2.cell? ⟨w.heap.size, 2, none⟩ = some (.bool true) := N2.a 2
  have N2a3 : w2.cell? ⟨w.heap.size, 3, none⟩ = some (.int .i64 lv) := N2.a 3
  have N2a4 : w2.cell? ⟨w.heap.size, 4, none⟩ = some (.slice p n cp) := N2.a 4
  have N2b0 : w2.cell? ⟨w.heap.size + 1, 0, none⟩ = some (.string nm) := N2.b 0
  have N2b1 : w2.cell? ⟨w.heap.size + 1, 1, none⟩ = some (.slice q m cq) := N2.b 1
  have N2b2 : w2.cell? ⟨w.heap.size + 1, 2, none⟩ = some (.string bu) := N2.b 2
  have N2b3 : w2.cell? ⟨w.heap.size + 1, 3, none⟩ = some (.slice s k cs) := N2.b 3
  have N2b4 : w2.cell? ⟨w.heap.size + 1, 4, none⟩ = some (.int .i64 0) := N2.b 4
  have N2b5 : w2.cell? ⟨w.heap.size + 1, 5, none⟩ = some (.int .i64 at_) := N2.b 5
  have N2c0 : w2.cell? ⟨w1.heap.size, 0, none⟩ = some (.bool true) := N2.c 0
  have N2c1 : w2.cell? ⟨w1.heap.size, 1, none⟩ = some (.bool t) := N2.c 1
  have N2c2 : w2.cell? ⟨w1.heap.size, 2, none⟩ = some (.string z) := N2.c 2
  have N2c3 : w2.cell? ⟨w1.heap.size, 3, none⟩ = some (.string y) := N2.c 3
  go_wp2_with fail
  refine (HV.out _).mono ?_
  rintro e w3 ⟨rfl, hB3⟩
  have N3 := N2.next hB3
  have hl3 := N3.l2
  have hlb3 : w.heap.size + 1 < w3.heap.size := by have := N3.l1; omega
  have hlc3 : w.heap.size < w3.heap.size := by omega
  clear hB3
  have N3a0 : w3.cell? ⟨w.heap.size, 0, none⟩ = some (.string os) := N3.a 0
  have N3a1 : w3.cell? ⟨w.heap.size, 1, none⟩ = some (.string arch) := N3.a 1
  have N3a2 : w3.cell? ⟨w.heap.size, 2, none⟩ = some (.bool true) := N3.a 2
  have N3a3 : w3.cell? ⟨w.heap.size, 3, none⟩ = some (.int .i64 lv) := N3.a 3
  have N3a4 : w3.cell? ⟨w.heap.size, 4, none⟩ = some (.slice p n cp) := N3.a 4
  have N3b0 : w3.cell? ⟨w.heap.size + 1, 0, none⟩ = some (.string nm) := N3.b 0
  have N3b1 : w3.cell? ⟨w.heap.size + 1, 1, none⟩ = some (.slice q m cq) := N3.b 1
  have N3b2 : w3.cell? ⟨w.heap.size + 1, 2, none⟩ = some (.string bu) := N3.b 2
  have N3b3 : w3.cell? ⟨w.heap.size + 1, 3, none⟩ = some (.slice s k cs) := N3.b 3
  have N3b4 : w3.cell? ⟨w.heap.size + 1, 4, none⟩ = some (.int .i64 0) := N3.b 4
  have N3b5 : w3.cell? ⟨w.heap.size + 1, 5, none⟩ = some (.int .i64 at_) := N3.b 5
  have N3c0 : w3.cell? ⟨w1.heap.size, 0, none⟩ = some (.bool true) := N3.c 0
  have N3c1 : w3.cell? ⟨w1.heap.size, 1, none⟩ = some (.bool t) := N3.c 1
  have N3c2 : w3.cell? ⟨w1.heap.size, 2, none⟩ = some (.string z) := N3.c 2
  have N3c3 : w3.cell? ⟨w1.heap.size, 3, none⟩ = some (.string y) := N3.c 3
  go_wp2_with fail
  go_ret2
  exact ⟨rfl, N3.bl⟩
set_option maxRecDepth 100000 in
set_option maxHeartbeats 2000000 in
theorem in_EE_c (os arch nm bu z y file : ByteArray) (t x : Bool) (lv er at_ : Int) (p q s : Option Addr) (n m k cp cq cs : Nat) (w : World) (HO : Hid (∀ w1, Below w.heap.size w w1 → Calls Tryz.prog 17 #[.string file] w1 fun e w' => e = .returned (.agg #[.bool true, .bool t, .string z, .string y]) ∧ Below w1.heap.size w1 w')) (ho : z.toList.isEmpty = true) (hr : y.toList.isEmpty = true) (HH : Hid (∀ w1, Below w.heap.size w w1 → Calls Tryz.prog 19 #[.agg #[.string os, .string arch, .bool false, .int .i64 lv, .slice p n cp], .string bu] w1 fun e w' => e = .returned (.tuple #[.bool true, .int .i64 0]) ∧ Below w1.heap.size w1 w')) (HC : Hid (∀ w1, Below w.heap.size w w1 → Calls Tryz.prog 20 #[.slice q m cq, .func (.func 21) #[] #[]] w1 fun e w' => e = .returned (.bool true) ∧ Below w1.heap.size w1 w')) :
    Calls Tryz.prog 10 #[.agg #[.string os, .string arch, .bool false, .int .i64 lv, .slice p n cp], .string file, .agg #[.string nm, .slice q m cq, .string bu, .slice s k cs, .int .i64 0, .int .i64 at_]] w fun e w' => e = .returned (.tuple #[(.int .i64 0), (.int .i64 0)]) ∧ Below w.heap.size w w' := by
  have M0 := mem2_new w #[.string os, .string arch, .bool false, .int .i64 lv, .slice p n cp] #[.string nm, .slice q m cq, .string bu, .slice s k cs, .int .i64 0, .int .i64 at_] 24 33
  have M0b := M0.bl
  go_enter Tryz.func10, Tryz.ntmps10
  go_wp2_with fail
  refine (HO.out _ M0b).mono ?_
  rintro e w1 ⟨rfl, hB1⟩
  have M1 := M0.next hB1
  have hl1 := M1.l
  have hl0 : w.heap.size < w1.heap.size := by omega
  have M1a0 : w1.cell? ⟨w.heap.size, 0, none⟩ = some (.string os) := M1.a 0
  have M1a1 : w1.cell? ⟨w.heap.size, 1, none⟩ = some (.string arch) := M1.a 1
  have M1a2 : w1.cell? ⟨w.heap.size, 2, none⟩ = some (.bool false) := M1.a 2
  have M1a3 : w1.cell? ⟨w.heap.size, 3, none⟩ = some (.int .i64 lv) := M1.a 3
  have M1a4 : w1.cell? ⟨w.heap.size, 4, none⟩ = some (.slice p n cp) := M1.a 4
  have M1b0 : w1.cell? ⟨w.heap.size + 1, 0, none⟩ = some (.string nm) := M1.b 0
  have M1b1 : w1.cell? ⟨w.heap.size + 1, 1, none⟩ = some (.slice q m cq) := M1.b 1
  have M1b2 : w1.cell? ⟨w.heap.size + 1, 2, none⟩ = some (.string bu) := M1.b 2
  have M1b3 : w1.cell? ⟨w.heap.size + 1, 3, none⟩ = some (.slice s k cs) := M1.b 3
  have M1b4 : w1.cell? ⟨w.heap.size + 1, 4, none⟩ = some (.int .i64 0) := M1.b 4
  have M1b5 : w1.cell? ⟨w.heap.size + 1, 5, none⟩ = some (.int .i64 at_) := M1.b 5
  have N := M1.more #[.bool true, .bool t, .string z, .string y] 44
  clear hB1 M0 M0b
  have Na0 : (w1.alloc (Obj.cells #[.bool true, .bool t, .string z, .string y] 44)).cell? ⟨w.heap.size, 0, none⟩ = some (.string os) := N.a 0
  have Na1 : (w1.alloc (Obj.cells #[.bool true, .bool t, .string z, .string y] 44)).cell? ⟨w.heap.size, 1, none⟩ = some (.string arch) := N.a 1
  have Na2 : (w1.alloc (Obj.cells #[.bool true, .bool t, .string z, .string y] 44)).cell? ⟨w.heap.size, 2, none⟩ = some (.bool false) := N.a 2
  have Na3 : (w1.alloc (Obj.cells #[.bool true, .bool t, .string z, .string y] 44)).cell? ⟨w.heap.size, 3, none⟩ = some (.int .i64 lv) := N.a 3
  have Na4 : (w1.alloc (Obj.cells #[.bool true, .bool t, .string z, .string y] 44)).cell? ⟨w.heap.size, 4, none⟩ = some (.slice p n cp) := N.a 4
  have Nb0 : (w1.alloc (Obj.cells #[.bool true, .bool t, .string z, .string y] 44)).cell? ⟨w.heap.size + 1, 0, none⟩ = some (.string nm) := N.b 0
  have Nb1 : (w1.alloc (Obj.cells #[.bool true, .bool t, .string z, .string y] 44)).cell? ⟨w.heap.size + 1, 1, none⟩ = some (.slice q m cq) := N.b 1
  have Nb2 : (w1.alloc (Obj.cells #[.bool true, .bool t, .string z, .string y] 44)).cell? ⟨w.heap.size + 1, 2, none⟩ = some (.string bu) := N.b 2
  have Nb3 : (w1.alloc (Obj.cells #[.bool true, .bool t, .string z, .string y] 44)).cell? ⟨w.heap.size + 1, 3, none⟩ = some (.slice s k cs) := N.b 3
  have Nb4 : (w1.alloc (Obj.cells #[.bool true, .bool t, .string z, .string y] 44)).cell? ⟨w.heap.size + 1, 4, none⟩ = some (.int .i64 0) := N.b 4
  have Nb5 : (w1.alloc (Obj.cells #[.bool true, .bool t, .string z, .string y] 44)).cell? ⟨w.heap.size + 1, 5, none⟩ = some (.int .i64 at_) := N.b 5
  go_wp2_with fail
  refine (HH.out _ N.bl).mono ?_
  rintro e w2 ⟨rfl, hB2⟩
  have N2 := N.next hB2
  have hl2 := N2.l2
  have hlb2 : w.heap.size + 1 < w2.heap.size := by have := N2.l1; omega
  have hlc2 : w.heap.size < w2.heap.size := by omega
  clear hB2
  have N2a0 : w2.cell? ⟨w.heap.size, 0, none⟩ = some (.string os) := N2.a 0
  have N2a1 : w2.cell? ⟨w.heap.size, 1, none⟩ = some (.string arch) := N2.a 1
  have N2a2 : w2.cell? ⟨w.heap.size, 2, none⟩ = some (.bool false) := N2.a 2
  have N2a3 : w2.cell? ⟨w.heap.size, 3, none⟩ = some (.int .i64 lv) := N2.a 3
  have N2a4 : w2.cell? ⟨w.heap.size, 4, none⟩ = some (.slice p n cp) := N2.a 4
  have N2b0 : w2.cell? ⟨w.heap.size + 1, 0, none⟩ = some (.string nm) := N2.b 0
  have N2b1 : w2.cell? ⟨w.heap.size + 1, 1, none⟩ = some (.slice q m cq) := N2.b 1
  have N2b2 : w2.cell? ⟨w.heap.size + 1, 2, none⟩ = some (.string bu) := N2.b 2
  have N2b3 : w2.cell? ⟨w.heap.size + 1, 3, none⟩ = some (.slice s k cs) := N2.b 3
  have N2b4 : w2.cell? ⟨w.heap.size + 1, 4, none⟩ = some (.int .i64 0) := N2.b 4
  have N2b5 : w2.cell? ⟨w.heap.size + 1, 5, none⟩ = some (.int .i64 at_) := N2.b 5
  have N2c0 : w2.cell? ⟨w1.heap.size, 0, none⟩ = some (.bool true) := N2.c 0
  have N2c1 : w2.cell? ⟨w1.heap.size, 1, none⟩ = some (.bool t) := N2.c 1
  have N2c2 : w2.cell? ⟨w1.heap.size, 2, none⟩ = some (.string z) := N2.c 2
  have N2c3 : w2.cell? ⟨w1.heap.size, 3, none⟩ = some (.string y) := N2.c 3
  go_wp2_with fail
  refine (HC.out _ N2.bl).mono ?_
  rintro e w3 ⟨rfl, hB3⟩
  have N3 := N2.next hB3
  have hl3 := N3.l2
  have hlb3 : w.heap.size + 1 < w3.heap.size := by have := N3.l1; omega
  have hlc3 : w.heap.size < w3.heap.size := by omega
  clear hB3
  have N3a0 : w3.cell? ⟨w.heap.size, 0, none⟩ = some (.string os) := N3.a 0
  have N3a1 : w3.cell? ⟨w.heap.size, 1, none⟩ = some (.string arch) := N3.a 1
  have N3a2 : w3.cell? ⟨w.heap.size, 2, none⟩ = some (.bool false) := N3.a 2
  have N3a3 : w3.cell? ⟨w.heap.size, 3, none⟩ = some (.int .i64 lv) := N3.a 3
  have N3a4 : w3.cell? ⟨w.heap.size, 4, none⟩ = some (.slice p n cp) := N3.a 4
  have N3b0 : w3.cell? ⟨w.heap.size + 1, 0, none⟩ = some (.string nm) := N3.b 0
  have N3b1 : w3.cell? ⟨w.heap.size + 1, 1, none⟩ = some (.slice q m cq) := N3.b 1
  have N3b2 : w3.cell? ⟨w.heap.size + 1, 2, none⟩ = some (.string bu) := N3.b 2
  have N3b3 : w3.cell? ⟨w.heap.size + 1, 3, none⟩ = some (.slice s k cs) := N3.b 3
  have N3b4 : w3.cell? ⟨w.heap.size + 1, 4, none⟩ = some (.int .i64 0) := N3.b 4
  have N3b5 : w3.cell? ⟨w.heap.size + 1, 5, none⟩ = some (.int .i64 at_) := N3.b 5
  have N3c0 : w3.cell? ⟨w1.heap.size, 0, none⟩ = some (.bool true) := N3.c 0
  have N3c1 : w3.cell? ⟨w1.heap.size, 1, none⟩ = some (.bool t) := N3.c 1
  have N3c2 : w3.cell? ⟨w1.heap.size, 2, none⟩ = some (.string z) := N3.c 2
  have N3c3 : w3.cell? ⟨w1.heap.size, 3, none⟩ = some (.string y) := N3.c 3
  go_wp2_with fail
  go_ret2
  exact ⟨rfl, N3.bl⟩
set_option maxRecDepth 100000 in
set_option maxHeartbeats 2000000 in
theorem in_EE_v (os arch nm bu z y file : ByteArray) (t x : Bool) (lv er at_ : Int) (p q s : Option Addr) (n m k cp cq cs : Nat) (w : World) (HO : Hid (∀ w1, Below w.heap.size w w1 → Calls Tryz.prog 17 #[.string file] w1 fun e w' => e = .returned (.agg #[.bool true, .bool t, .string z, .string y]) ∧ Below w1.heap.size w1 w')) (ho : z.toList.isEmpty = true) (hr : y.toList.isEmpty = true) (HH : Hid (∀ w1, Below w.heap.size w w1 → Calls Tryz.prog 19 #[.agg #[.string os, .string arch, .bool false, .int .i64 lv, .slice p n cp], .string bu] w1 fun e w' => e = .returned (.tuple #[.bool true, .int .i64 0]) ∧ Below w1.heap.size w1 w')) (vn : Int) (HV : Hid (∀ w1, Calls Tryz.prog 22 #[.agg #[.bool true, .bool t, .string z, .string y], .string nm] w1 fun e w' => e = .returned (.int .i64 vn) ∧ Below w1.heap.size w1 w')) (HC : Hid (∀ w1, Below w.heap.size w w1 → Calls Tryz.prog 20 #[.slice q m cq, .func (.func 21) #[] #[]] w1 fun e w' => e = .returned (.bool false) ∧ Below w1.heap.size w1 w')) :
    Calls Tryz.prog 10 #[.agg #[.string os, .string arch, .bool false, .int .i64 lv, .slice p n cp], .string file, .agg #[.string nm, .slice q m cq, .string bu, .slice s k cs, .int .i64 0, .int .i64 at_]] w fun e w' => e = .returned (.tuple #[(.int .i64 vn), (.int .i64 0)]) ∧ Below w.heap.size w w' := by
  have M0 := mem2_new w #[.string os, .string arch, .bool false, .int .i64 lv, .slice p n cp] #[.string nm, .slice q m cq, .string bu, .slice s k cs, .int .i64 0, .int .i64 at_] 24 33
  have M0b := M0.bl
  go_enter Tryz.func10, Tryz.ntmps10
  go_wp2_with fail
  refine (HO.out _ M0b).mono ?_
  rintro e w1 ⟨rfl, hB1⟩
  have M1 := M0.next hB1
  have hl1 := M1.l
  have hl0 : w.heap.size < w1.heap.size := by omega
  have M1a0 : w1.cell? ⟨w.heap.size, 0, none⟩ = some (.string os) := M1.a 0
  have M1a1 : w1.cell? ⟨w.heap.size, 1, none⟩ = some (.string arch) := M1.a 1
  have M1a2 : w1.cell? ⟨w.heap.size, 2, none⟩ = some (.bool false) := M1.a 2
  have M1a3 : w1.cell? ⟨w.heap.size, 3, none⟩ = some (.int .i64 lv) := M1.a 3
  have M1a4 : w1.cell? ⟨w.heap.size, 4, none⟩ = some (.slice p n cp) := M1.a 4
  have M1b0 : w1.cell? ⟨w.heap.size + 1, 0, none⟩ = some (.string nm) := M1.b 0
  have M1b1 : w1.cell? ⟨w.heap.size + 1, 1, none⟩ = some (.slice q m cq) := M1.b 1
  have M1b2 : w1.cell? ⟨w.heap.size + 1, 2, none⟩ = some (.string bu) := M1.b 2
  have M1b3 : w1.cell? ⟨w.heap.size + 1, 3, none⟩ = some (.slice s k cs) := M1.b 3
  have M1b4 : w1.cell? ⟨w.heap.size + 1, 4, none⟩ = some (.int .i64 0) := M1.b 4
  have M1b5 : w1.cell? ⟨w.heap.size + 1, 5, none⟩ = some (.int .i64 at_) := M1.b 5
  have N := M1.more #[.bool true, .bool t, .string z, .string y] 44
  clear hB1 M0 M0b
  have Na0 : (w1.alloc (Obj.cells #[.bool true, .bool t, .string z, .string y] 44)).cell? ⟨w.heap.size, 0, none⟩ = some (.string os) := N.a 0
  have Na1 : (w1.alloc (Obj.cells #[.bool true, .bool t, .string z, .string y] 44)).cell? ⟨w.heap.size, 1, none⟩ = some (.string arch) := N.a 1
  have Na2 : (w1.alloc (Obj.cells #[.bool true, .bool t, .string z, .string y] 44)).cell? ⟨w.heap.size, 2, none⟩ = some (.bool false) := N.a 2
  have Na3 : (w1.alloc (Obj.cells #[.bool true, .bool t, .string z, .string y] 44)).cell? ⟨w.heap.size, 3, none⟩ = some (.int .i64 lv) := N.a 3
  have Na4 : (w1.alloc (Obj.cells #[.bool true, .bool t, .string z, .string y] 44)).cell? ⟨w.heap.size, 4, none⟩ = some (.slice p n cp) := N.a 4
  have Nb0 : (w1.alloc (Obj.cells #[.bool true, .bool t, .string z, .string y] 44)).cell? ⟨w.heap.size + 1, 0, none⟩ = some (.string nm) := N.b 0
  have Nb1 : (w1.alloc (Obj.cells #[.bool true, .bool t, .string z, .string y] 44)).cell? ⟨w.heap.size + 1, 1, none⟩ = some (.slice q m cq) := N.b 1
  have Nb2 : (w1.alloc (Obj.cells #[.bool true, .bool t, .string z, .string y] 44)).cell? ⟨w.heap.size + 1, 2, none⟩ = some (.string bu) := N.b 2
  have Nb3 : (w1.alloc (Obj.cells #[.bool true, .bool t, .string z, .string y] 44)).cell? ⟨w.heap.size + 1, 3, none⟩ = some (.slice s k cs) := N.b 3
  have Nb4 : (w1.alloc (Obj.cells #[.bool true, .bool t, .string z, .string y] 44)).cell? ⟨w.heap.size + 1, 4, none⟩ = some (.int .i64 0) := N.b 4
  have Nb5 : (w1.alloc (Obj.cells #[.bool true, .bool t, .string z, .string y] 44)).cell? ⟨w.heap.size + 1, 5, none⟩ = some (.int .i64 at_) := N.b 5
  go_wp2_with fail
  refine (HH.out _ N.bl).mono ?_
  rintro e w2 ⟨rfl, hB2⟩
  have N2 := N.next hB2
  have hl2 := N2.l2
  have hlb2 : w.heap.size + 1 < w2.heap.size := by have := N2.l1; omega
  have hlc2 : w.heap.size < w2.heap.size := by omega
  clear hB2
  have N2a0 : w2.cell? ⟨w.heap.size, 0, none⟩ = some (.string os) := N2.a 0
  have N2a1 : w2.cell? ⟨w.heap.size, 1, none⟩ = some (.string arch) := N2.a 1
  have N2a2 : w2.cell? ⟨w.heap.size, 2, none⟩ = some (.bool false) := N2.a 2
  have N2a3 : w2.cell? ⟨w.heap.size, 3, none⟩ = some (.int .i64 lv) := N2.a 3
  have N2a4 : w2.cell? ⟨w.heap.size, 4, none⟩ = some (.slice p n cp) := N2.a 4
  have N2b0 : w2.cell? ⟨w.heap.size + 1, 0, none⟩ = some (.string nm) := N2.b 0
  have N2b1 : w2.cell? ⟨w.heap.size + 1, 1, none⟩ = some (.slice q m cq) := N2.b 1
  have N2b2 : w2.cell? ⟨w.heap.size + 1, 2, none⟩ = some (.string bu) := N2.b 2
  have N2b3 : w2.cell? ⟨w.heap.size + 1, 3, none⟩ = some (.slice s k cs) := N2.b 3
  have N2b4 : w2.cell? ⟨w.heap.size + 1, 4, none⟩ = some (.int .i64 0) := N2.b 4
  have N2b5 : w2.cell? ⟨w.heap.size + 1, 5, none⟩ = some (.int .i64 at_) := N2.b 5
  have N2c0 : w2.cell? ⟨w1.heap.size, 0, none⟩ = some (.bool true) := N2.c 0
  have N2c1 : w2.cell? ⟨w1.heap.size, 1, none⟩ = some (.bool t) := N2.c 1
  have N2c2 : w2.cell? ⟨w1.heap.size, 2, none⟩ = some (.string z) := N2.c 2
  have N2c3 : w2.cell? ⟨w1.heap.size, 3, none⟩ = some (.string y) := N2.c 3
  go_wp2_with fail
  refine (HC.out _ N2.bl).mono ?_
  rintro e w3 ⟨rfl, hB3⟩
  have N3 := N2.next hB3
  have hl3 := N3.l2
  have hlb3 : w.heap.size + 1 < w3.heap.size := by have := N3.l1; omega
  have hlc3 : w.heap.size < w3.heap.size := by omega
  clear hB3
  have N3a0 : w3.cell? ⟨w.heap.size, 0, none⟩ = some (.string os) := N3.a 0
  have N3a1 : w3.cell? ⟨w.heap.size, 1, none⟩ = some (.string arch) := N3.a 1
  have N3a2 : w3.cell? ⟨w.heap.size, 2, none⟩ = some (.bool false) := N3.a 2
  have N3a3 : w3.cell? ⟨w.heap.size, 3, none⟩ = some (.int .i64 lv) := N3.a 3
  have N3a4 : w3.cell? ⟨w.heap.size, 4, none⟩ = some (.slice p n cp) := N3.a 4
  have N3b0 : w3.cell? ⟨w.heap.size + 1, 0, none⟩ = some (.string nm) := N3.b 0
  have N3b1 : w3.cell? ⟨w.heap.size + 1, 1, none⟩ = some (.slice q m cq) := N3.b 1
  have N3b2 : w3.cell? ⟨w.heap.size + 1, 2, none⟩ = some (.string bu) := N3.b 2
  have N3b3 : w3.cell? ⟨w.heap.size + 1, 3, none⟩ = some (.slice s k cs) := N3.b 3
  have N3b4 : w3.cell? ⟨w.heap.size + 1, 4, none⟩ = some (.int .i64 0) := N3.b 4
  have N3b5 : w3.cell? ⟨w.heap.size + 1, 5, none⟩ = some (.int .i64 at_) := N3.b 5
  have N3c0 : w3.cell? ⟨w1.heap.size, 0, none⟩ = some (.bool true) := N3.c 0
  have N3c1 : w3.cell? ⟨w1.heap.size, 1, none⟩ = some (.bool t) := N3.c 1
  have N3c2 : w3.cell? ⟨w1.heap.size, 2, none⟩ = some (.string z) := N3.c 2
  have N3c3 : w3.cell? ⟨w1.heap.size, 3, none⟩ = some (.string y) := N3.c 3
  go_wp2_with fail
  refine (HV.out _).mono ?_
  rintro e w4 ⟨rfl, hB4⟩
  have N4 := N3.next hB4
  have hl4 := N4.l2
  have hlb4 : w.heap.size + 1 < w4.heap.size := by have := N4.l1; omega
  have hlc4 : w.heap.size < w4.heap.size := by omega
  clear hB4
  have N4a0 : w4.cell? ⟨w.heap.size, 0, none⟩ = some (.string os) := N4.a 0
  have N4a1 : w4.cell? ⟨w.heap.size, 1, none⟩ = some (.string arch) := N4.a 1
  have N4a2 : w4.cell? ⟨w.heap.size, 2, none⟩ = some (.bool false) := N4.a 2
  have N4a3 : w4.cell? ⟨w.heap.size, 3, none⟩ = some (.int .i64 lv) := N4.a 3
  have N4a4 : w4.cell? ⟨w.heap.size, 4, none⟩ = some (.slice p n cp) := N4.a 4
  have N4b0 : w4.cell? ⟨w.heap.size + 1, 0, none⟩ = some (.string nm) := N4.b 0
  have N4b1 : w4.cell? ⟨w.heap.size + 1, 1, none⟩ = some (.slice q m cq) := N4.b 1
  have N4b2 : w4.cell? ⟨w.heap.size + 1, 2, none⟩ = some (.string bu) := N4.b 2
  have N4b3 : w4.cell? ⟨w.heap.size + 1, 3, none⟩ = some (.slice s k cs) := N4.b 3
  have N4b4 : w4.cell? ⟨w.heap.size + 1, 4, none⟩ = some (.int .i64 0) := N4.b 4
  have N4b5 : w4.cell? ⟨w.heap.size + 1, 5, none⟩ = some (.int .i64 at_) := N4.b 5
  have N4c0 : w4.cell? ⟨w1.heap.size, 0, none⟩ = some (.bool true) := N4.c 0
  have N4c1 : w4.cell? ⟨w1.heap.size, 1, none⟩ = some (.bool t) := N4.c 1
  have N4c2 : w4.cell? ⟨w1.heap.size, 2, none⟩ = some (.string z) := N4.c 2
  have N4c3 : w4.cell? ⟨w1.heap.size, 3, none⟩ = some (.string y) := N4.c 3
  go_wp2_with fail
  go_ret2
  exact ⟨rfl, N4.bl⟩
set_option maxRecDepth 100000 in
set_option maxHeartbeats 2000000 in
theorem in_EY_e (os arch nm bu z y file : ByteArray) (cgo t x : Bool) (lv er at_ : Int) (p q s : Option Addr) (n m k cp cq cs : Nat) (w : World) (HO : Hid (∀ w1, Below w.heap.size w w1 → Calls Tryz.prog 17 #[.string file] w1 fun e w' => e = .returned (.agg #[.bool true, .bool t, .string z, .string y]) ∧ Below w1.heap.size w1 w')) (ho : z.toList.isEmpty = true) (hR : Hid (∀ w1, Below w.heap.size w w1 → Calls Tryz.prog 8 #[.agg #[.string os, .string arch, .bool cgo, .int .i64 lv, .slice p n cp], .string y] w1 fun e w' => e = .returned (.bool true) ∧ Below w1.heap.size w1 w')) (hr : y.toList.isEmpty = false) (HH : Hid (∀ w1, Below w.heap.size w w1 → Calls Tryz.prog 19 #[.agg #[.string os, .string arch, .bool cgo, .int .i64 lv, .slice p n cp], .string bu] w1 fun e w' => e = .returned (.tuple #[.bool x, .int .i64 er]) ∧ Below w1.heap.size w1 w')) (her : (er != 0) = true) (kn : Int) (HF : Hid (∀ w1, Calls Tryz.prog 18 #[.agg #[.bool true, .bool t, .string z, .string y]] w1 fun e w' => e = .returned (.int .i64 kn) ∧ Below w1.heap.size w1 w')) :
    Calls Tryz.prog 10 #[.agg #[.string os, .string arch, .bool cgo, .int .i64 lv, .slice p n cp], .string file, .agg #[.string nm, .slice q m cq, .string bu, .slice s k cs, .int .i64 0, .int .i64 at_]] w fun e w' => e = .returned (.tuple #[(.int .i64 kn), (.int .i64 4)]) ∧ Below w.heap.size w w' := by
  have M0 := mem2_new w #[.string os, .string arch, .bool cgo, .int .i64 lv, .slice p n cp] #[.string nm, .slice q m cq, .string bu, .slice s k cs, .int .i64 0, .int .i64 at_] 24 33
  have M0b := M0.bl
  go_enter Tryz.func10, Tryz.ntmps10
  go_wp2_with fail
  refine (HO.out _ M0b).mono ?_
  rintro e w1 ⟨rfl, hB1⟩
  have M1 := M0.next hB1
  have hl1 := M1.l
  have hl0 : w.heap.size < w1.heap.size := by omega
  have M1a0 : w1.cell? ⟨w.heap.size, 0, none⟩ = some (.string os) := M1.a 0
  have M1a1 : w1.cell? ⟨w.heap.size, 1, none⟩ = some (.string arch) := M1.a 1
  have M1a2 : w1.cell? ⟨w.heap.size, 2, none⟩ = some (.bool cgo) := M1.a 2
  have M1a3 : w1.cell? ⟨w.heap.size, 3, none⟩ = some (.int .i64 lv) := M1.a 3
  have M1a4 : w1.cell? ⟨w.heap.size, 4, none⟩ = some (.slice p n cp) := M1.a 4
  have M1b0 : w1.cell? ⟨w.heap.size + 1, 0, none⟩ = some (.string nm) := M1.b 0
  have M1b1 : w1.cell? ⟨w.heap.size + 1, 1, none⟩ = some (.slice q m cq) := M1.b 1
  have M1b2 : w1.cell? ⟨w.heap.size + 1, 2, none⟩ = some (.string bu) := M1.b 2
  have M1b3 : w1.cell? ⟨w.heap.size + 1, 3, none⟩ = some (.slice s k cs) := M1.b 3
  have M1b4 : w1.cell? ⟨w.heap.size + 1, 4, none⟩ = some (.int .i64 0) := M1.b 4
  have M1b5 : w1.cell? ⟨w.heap.size + 1, 5, none⟩ = some (.int .i64 at_) := M1.b 5
  have N := M1.more #[.bool true, .bool t, .string z, .string y] 44
  clear hB1 M0 M0b
  have Na0 : (w1.alloc (Obj.cells #[.bool true, .bool t, .string z, .string y] 44)).cell? ⟨w.heap.size, 0, none⟩ = some (.string os) := N.a 0
  have Na1 : (w1.alloc (Obj.cells #[.bool true, .bool t, .string z, .string y] 44)).cell? ⟨w.heap.size, 1, none⟩ = some (.string arch) := N.a 1
  have Na2 : (w1.alloc (Obj.cells #[.bool true, .bool t, .string z, .string y] 44)).cell? ⟨w.heap.size, 2, none⟩ = some (.bool cgo) := N.a 2
  have Na3 : (w1.alloc (Obj.cells #[.bool true, .bool t, .string z, .string y] 44)).cell? ⟨w.heap.size, 3, none⟩ = some (.int .i64 lv) := N.a 3
  have Na4 : (w1.alloc (Obj.cells #[.bool true, .bool t, .string z, .string y] 44)).cell? ⟨w.heap.size, 4, none⟩ = some (.slice p n cp) := N.a 4
  have Nb0 : (w1.alloc (Obj.cells #[.bool true, .bool t, .string z, .string y] 44)).cell? ⟨w.heap.size + 1, 0, none⟩ = some (.string nm) := N.b 0
  have Nb1 : (w1.alloc (Obj.cells #[.bool true, .bool t, .string z, .string y] 44)).cell? ⟨w.heap.size + 1, 1, none⟩ = some (.slice q m cq) := N.b 1
  have Nb2 : (w1.alloc (Obj.cells #[.bool true, .bool t, .string z, .string y] 44)).cell? ⟨w.heap.size + 1, 2, none⟩ = some (.string bu) := N.b 2
  have Nb3 : (w1.alloc (Obj.cells #[.bool true, .bool t, .string z, .string y] 44)).cell? ⟨w.heap.size + 1, 3, none⟩ = some (.slice s k cs) := N.b 3
  have Nb4 : (w1.alloc (Obj.cells #[.bool true, .bool t, .string z, .string y] 44)).cell? ⟨w.heap.size + 1, 4, none⟩ = some (.int .i64 0) := N.b 4
  have Nb5 : (w1.alloc (Obj.cells #[.bool true, .bool t, .string z, .string y] 44)).cell? ⟨w.heap.size + 1, 5, none⟩ = some (.int .i64 at_) := N.b 5
  go_wp2_with fail
  refine (hR.out _ N.bl).mono ?_
  rintro e w2 ⟨rfl, hB2⟩
  have N2 := N.next hB2
  have hl2 := N2.l2
  have hlb2 : w.heap.size + 1 < w2.heap.size := by have := N2.l1; omega
  have hlc2 : w.heap.size < w2.heap.size := by omega
  clear hB2
  have N2a0 : w2.cell? ⟨w.heap.size, 0, none⟩ = some (.string os) := N2.a 0
  have N2a1 : w2.cell? ⟨w.heap.size, 1, none⟩ = some (.string arch) := N2.a 1
  have N2a2 : w2.cell? ⟨w.heap.size, 2, none⟩ = some (.bool cgo) := N2.a 2
  have N2a3 : w2.cell? ⟨w.heap.size, 3, none⟩ = some (.int .i64 lv) := N2.a 3
  have N2a4 : w2.cell? ⟨w.heap.size, 4, none⟩ = some (.slice p n cp) := N2.a 4
  have N2b0 : w2.cell? ⟨w.heap.size + 1, 0, none⟩ = some (.string nm) := N2.b 0
  have N2b1 : w2.cell? ⟨w.heap.size + 1, 1, none⟩ = some (.slice q m cq) := N2.b 1
  have N2b2 : w2.cell? ⟨w.heap.size + 1, 2, none⟩ = some (.string bu) := N2.b 2
  have N2b3 : w2.cell? ⟨w.heap.size + 1, 3, none⟩ = some (.slice s k cs) := N2.b 3
  have N2b4 : w2.cell? ⟨w.heap.size + 1, 4, none⟩ = some (.int .i64 0) := N2.b 4
  have N2b5 : w2.cell? ⟨w.heap.size + 1, 5, none⟩ = some (.int .i64 at_) := N2.b 5
  have N2c0 : w2.cell? ⟨w1.heap.size, 0, none⟩ = some (.bool true) := N2.c 0
  have N2c1 : w2.cell? ⟨w1.heap.size, 1, none⟩ = some (.bool t) := N2.c 1
  have N2c2 : w2.cell? ⟨w1.heap.size, 2, none⟩ = some (.string z) := N2.c 2
  have N2c3 : w2.cell? ⟨w1.heap.size, 3, none⟩ = some (.string y) := N2.c 3
  go_wp2_with fail
  refine (HH.out _ N2.bl).mono ?_
  rintro e w3 ⟨rfl, hB3⟩
  have N3 := N2.next hB3
  have hl3 := N3.l2
  have hlb3 : w.heap.size + 1 < w3.heap.size := by have := N3.l1; omega
  have hlc3 : w.heap.size < w3.heap.size := by omega
  clear hB3
  have N3a0 : w3.cell? ⟨w.heap.size, 0, none⟩ = some (.string os) := N3.a 0
  have N3a1 : w3.cell? ⟨w.heap.size, 1, none⟩ = some (.string arch) := N3.a 1
  have N3a2 : w3.cell? ⟨w.heap.size, 2, none⟩ = some (.bool cgo) := N3.a 2
  have N3a3 : w3.cell? ⟨w.heap.size, 3, none⟩ = some (.int .i64 lv) := N3.a 3
  have N3a4 : w3.cell? ⟨w.heap.size, 4, none⟩ = some (.slice p n cp) := N3.a 4
  have N3b0 : w3.cell? ⟨w.heap.size + 1, 0, none⟩ = some (.string nm) := N3.b 0
  have N3b1 : w3.cell? ⟨w.heap.size + 1, 1, none⟩ = some (.slice q m cq) := N3.b 1
  have N3b2 : w3.cell? ⟨w.heap.size + 1, 2, none⟩ = some (.string bu) := N3.b 2
  have N3b3 : w3.cell? ⟨w.heap.size + 1, 3, none⟩ = some (.slice s k cs) := N3.b 3
  have N3b4 : w3.cell? ⟨w.heap.size + 1, 4, none⟩ = some (.int .i64 0) := N3.b 4
  have N3b5 : w3.cell? ⟨w.heap.size + 1, 5, none⟩ = some (.int .i64 at_) := N3.b 5
  have N3c0 : w3.cell? ⟨w1.heap.size, 0, none⟩ = some (.bool true) := N3.c 0
  have N3c1 : w3.cell? ⟨w1.heap.size, 1, none⟩ = some (.bool t) := N3.c 1
  have N3c2 : w3.cell? ⟨w1.heap.size, 2, none⟩ = some (.string z) := N3.c 2
  have N3c3 : w3.cell? ⟨w1.heap.size, 3, none⟩ = some (.string y) := N3.c 3
  go_wp2_with fail
  refine (HF.out _).mono ?_
  rintro e w4 ⟨rfl, hB4⟩
  have N4 := N3.next hB4
  have hl4 := N4.l2
  have hlb4 : w.heap.size + 1 < w4.heap.size := by have := N4.l1; omega
  have hlc4 : w.heap.size < w4.heap.size := by omega
  clear hB4
  have N4a0 : w4.cell? ⟨w.heap.size, 0, none⟩ = some (.string os) := N4.a 0
  have N4a1 : w4.cell? ⟨w.heap.size, 1, none⟩ = some (.string arch) := N4.a 1
  have N4a2 : w4.cell? ⟨w.heap.size, 2, none⟩ = some (.bool cgo) := N4.a 2
  have N4a3 : w4.cell? ⟨w.heap.size, 3, none⟩ = some (.int .i64 lv) := N4.a 3
  have N4a4 : w4.cell? ⟨w.heap.size, 4, none⟩ = some (.slice p n cp) := N4.a 4
  have N4b0 : w4.cell? ⟨w.heap.size + 1, 0, none⟩ = some (.string nm) := N4.b 0
  have N4b1 : w4.cell? ⟨w.heap.size + 1, 1, none⟩ = some (.slice q m cq) := N4.b 1
  have N4b2 : w4.cell? ⟨w.heap.size + 1, 2, none⟩ = some (.string bu) := N4.b 2
  have N4b3 : w4.cell? ⟨w.heap.size + 1, 3, none⟩ = some (.slice s k cs) := N4.b 3
  have N4b4 : w4.cell? ⟨w.heap.size + 1, 4, none⟩ = some (.int .i64 0) := N4.b 4
  have N4b5 : w4.cell? ⟨w.heap.size + 1, 5, none⟩ = some (.int .i64 at_) := N4.b 5
  have N4c0 : w4.cell? ⟨w1.heap.size, 0, none⟩ = some (.bool true) := N4.c 0
  have N4c1 : w4.cell? ⟨w1.heap.size, 1, none⟩ = some (.bool t) := N4.c 1
  have N4c2 : w4.cell? ⟨w1.heap.size, 2, none⟩ = some (.string z) := N4.c 2
  have N4c3 : w4.cell? ⟨w1.heap.size, 3, none⟩ = some (.string y) := N4.c 3
  go_wp2_with fail
  go_ret2
  exact ⟨rfl, N4.bl⟩
set_option maxRecDepth 100000 in
set_option maxHeartbeats 2000000 in
theorem in_EY_f (os arch nm bu z y file : ByteArray) (cgo t x : Bool) (lv er at_ : Int) (p q s : Option Addr) (n m k cp cq cs : Nat) (w : World) (HO : Hid (∀ w1, Below w.heap.size w w1 → Calls Tryz.prog 17 #[.string file] w1 fun e w' => e = .returned (.agg #[.bool true, .bool t, .string z, .string y]) ∧ Below w1.heap.size w1 w')) (ho : z.toList.isEmpty = true) (hR : Hid (∀ w1, Below w.heap.size w w1 → Calls Tryz.prog 8 #[.agg #[.string os, .string arch, .bool cgo, .int .i64 lv, .slice p n cp], .string y] w1 fun e w' => e = .returned (.bool true) ∧ Below w1.heap.size w1 w')) (hr : y.toList.isEmpty = false) (HH : Hid (∀ w1, Below w.heap.size w w1 → Calls Tryz.prog 19 #[.agg #[.string os, .string arch, .bool cgo, .int .i64 lv, .slice p n cp], .string bu] w1 fun e w' => e = .returned (.tuple #[.bool false, .int .i64 0]) ∧ Below w1.heap.size w1 w')) :
    Calls Tryz.prog 10 #[.agg #[.string os, .string arch, .bool cgo, .int .i64 lv, .slice p n cp], .string file, .agg #[.string nm, .slice q m cq, .string bu, .slice s k cs, .int .i64 0, .int .i64 at_]] w fun e w' => e = .returned (.tuple #[(.int .i64 0), (.int .i64 0)]) ∧ Below w.heap.size w w' := by
  have M0 := mem2_new w #[.string os, .string arch, .bool cgo, .int .i64 lv, .slice p n cp] #[.string nm, .slice q m cq, .string bu, .slice s k cs, .int .i64 0, .int .i64 at_] 24 33
  have M0b := M0.bl
  go_enter Tryz.func10, Tryz.ntmps10
  go_wp2_with fail
  refine (HO.out _ M0b).mono ?_
  rintro e w1 ⟨rfl, hB1⟩
  have M1 := M0.next hB1
  have hl1 := M1.l
  have hl0 : w.heap.size < w1.heap.size := by omega
  have M1a0 : w1.cell? ⟨w.heap.size, 0, none⟩ = some (.string os) := M1.a 0
  have M1a1 : w1.cell? ⟨w.heap.size, 1, none⟩ = some (.string arch) := M1.a 1
  have M1a2 : w1.cell? ⟨w.heap.size, 2, none⟩ = some (.bool cgo) := M1.a 2
  have M1a3 : w1.cell? ⟨w.heap.size, 3, none⟩ = some (.int .i64 lv) := M1.a 3
  have M1a4 : w1.cell? ⟨w.heap.size, 4, none⟩ = some (.slice p n cp) := M1.a 4
  have M1b0 : w1.cell? ⟨w.heap.size + 1, 0, none⟩ = some (.string nm) := M1.b 0
  have M1b1 : w1.cell? ⟨w.heap.size + 1, 1, none⟩ = some (.slice q m cq) := M1.b 1
  have M1b2 : w1.cell? ⟨w.heap.size + 1, 2, none⟩ = some (.string bu) := M1.b 2
  have M1b3 : w1.cell? ⟨w.heap.size + 1, 3, none⟩ = some (.slice s k cs) := M1.b 3
  have M1b4 : w1.cell? ⟨w.heap.size + 1, 4, none⟩ = some (.int .i64 0) := M1.b 4
  have M1b5 : w1.cell? ⟨w.heap.size + 1, 5, none⟩ = some (.int .i64 at_) := M1.b 5
  have N := M1.more #[.bool true, .bool t, .string z, .string y] 44
  clear hB1 M0 M0b
  have Na0 : (w1.alloc (Obj.cells #[.bool true, .bool t, .string z, .string y] 44)).cell? ⟨w.heap.size, 0, none⟩ = some (.string os) := N.a 0
  have Na1 : (w1.alloc (Obj.cells #[.bool true, .bool t, .string z, .string y] 44)).cell? ⟨w.heap.size, 1, none⟩ = some (.string arch) := N.a 1
  have Na2 : (w1.alloc (Obj.cells #[.bool true, .bool t, .string z, .string y] 44)).cell? ⟨w.heap.size, 2, none⟩ = some (.bool cgo) := N.a 2
  have Na3 : (w1.alloc (Obj.cells #[.bool true, .bool t, .string z, .string y] 44)).cell? ⟨w.heap.size, 3, none⟩ = some (.int .i64 lv) := N.a 3
  have Na4 : (w1.alloc (Obj.cells #[.bool true, .bool t, .string z, .string y] 44)).cell? ⟨w.heap.size, 4, none⟩ = some (.slice p n cp) := N.a 4
  have Nb0 : (w1.alloc (Obj.cells #[.bool true, .bool t, .string z, .string y] 44)).cell? ⟨w.heap.size + 1, 0, none⟩ = some (.string nm) := N.b 0
  have Nb1 : (w1.alloc (Obj.cells #[.bool true, .bool t, .string z, .string y] 44)).cell? ⟨w.heap.size + 1, 1, none⟩ = some (.slice q m cq) := N.b 1
  have Nb2 : (w1.alloc (Obj.cells #[.bool true, .bool t, .string z, .string y] 44)).cell? ⟨w.heap.size + 1, 2, none⟩ = some (.string bu) := N.b 2
  have Nb3 : (w1.alloc (Obj.cells #[.bool true, .bool t, .string z, .string y] 44)).cell? ⟨w.heap.size + 1, 3, none⟩ = some (.slice s k cs) := N.b 3
  have Nb4 : (w1.alloc (Obj.cells #[.bool true, .bool t, .string z, .string y] 44)).cell? ⟨w.heap.size + 1, 4, none⟩ = some (.int .i64 0) := N.b 4
  have Nb5 : (w1.alloc (Obj.cells #[.bool true, .bool t, .string z, .string y] 44)).cell? ⟨w.heap.size + 1, 5, none⟩ = some (.int .i64 at_) := N.b 5
  go_wp2_with fail
  refine (hR.out _ N.bl).mono ?_
  rintro e w2 ⟨rfl, hB2⟩
  have N2 := N.next hB2
  have hl2 := N2.l2
  have hlb2 : w.heap.size + 1 < w2.heap.size := by have := N2.l1; omega
  have hlc2 : w.heap.size < w2.heap.size := by omega
  clear hB2
  have N2a0 : w2.cell? ⟨w.heap.size, 0, none⟩ = some (.string os) := N2.a 0
  have N2a1 : w2.cell? ⟨w.heap.size, 1, none⟩ = some (.string arch) := N2.a 1
  have N2a2 : w2.cell? ⟨w.heap.size, 2, none⟩ = some (.bool cgo) := N2.a 2
  have N2a3 : w2.cell? ⟨w.heap.size, 3, none⟩ = some (.int .i64 lv) := N2.a 3
  have N2a4 : w2.cell? ⟨w.heap.size, 4, none⟩ = some (.slice p n cp) := N2.a 4
  have N2b0 : w2.cell? ⟨w.heap.size + 1, 0, none⟩ = some (.string nm) := N2.b 0
  have N2b1 : w2.cell? ⟨w.heap.size + 1, 1, none⟩ = some (.slice q m cq) := N2.b 1
  have N2b2 : w2.cell? ⟨w.heap.size + 1, 2, none⟩ = some (.string bu) := N2.b 2
  have N2b3 : w2.cell? ⟨w.heap.size + 1, 3, none⟩ = some (.slice s k cs) := N2.b 3
  have N2b4 : w2.cell? ⟨w.heap.size + 1, 4, none⟩ = some (.int .i64 0) := N2.b 4
  have N2b5 : w2.cell? ⟨w.heap.size + 1, 5, none⟩ = some (.int .i64 at_) := N2.b 5
  have N2c0 : w2.cell? ⟨w1.heap.size, 0, none⟩ = some (.bool true) := N2.c 0
  have N2c1 : w2.cell? ⟨w1.heap.size, 1, none⟩ = some (.bool t) := N2.c 1
  have N2c2 : w2.cell? ⟨w1.heap.size, 2, none⟩ = some (.string z) := N2.c 2
  have N2c3 : w2.cell? ⟨w1.heap.size, 3, none⟩ = some (.string y) := N2.c 3
  go_wp2_with fail
  refine (HH.out _ N2.bl).mono ?_
  rintro e w3 ⟨rfl, hB3⟩
  have N3 := N2.next hB3
  have hl3 := N3.l2
  have hlb3 : w.heap.size + 1 < w3.heap.size := by have := N3.l1; omega
  have hlc3 : w.heap.size < w3.heap.size := by omega
  clear hB3
  have N3a0 : w3.cell? ⟨w.heap.size, 0, none⟩ = some (.string os) := N3.a 0
  have N3a1 : w3.cell? ⟨w.heap.size, 1, none⟩ = some (.string arch) := N3.a 1
  have N3a2 : w3.cell? ⟨w.heap.size, 2, none⟩ = some (.bool cgo) := N3.a 2
  have N3a3 : w3.cell? ⟨w.heap.size, 3, none⟩ = some (.int .i64 lv) := N3.a 3
  have N3a4 : w3.cell? ⟨w.heap.size, 4, none⟩ = some (.slice p n cp) := N3.a 4
  have N3b0 : w3.cell? ⟨w.heap.size + 1, 0, none⟩ = some (.string nm) := N3.b 0
  have N3b1 : w3.cell? ⟨w.heap.size + 1, 1, none⟩ = some (.slice q m cq) := N3.b 1
  have N3b2 : w3.cell? ⟨w.heap.size + 1, 2, none⟩ = some (.string bu) := N3.b 2
  have N3b3 : w3.cell? ⟨w.heap.size + 1, 3, none⟩ = some (.slice s k cs) := N3.b 3
  have N3b4 : w3.cell? ⟨w.heap.size + 1, 4, none⟩ = some (.int .i64 0) := N3.b 4
  have N3b5 : w3.cell? ⟨w.heap.size + 1, 5, none⟩ = some (.int .i64 at_) := N3.b 5
  have N3c0 : w3.cell? ⟨w1.heap.size, 0, none⟩ = some (.bool true) := N3.c 0
  have N3c1 : w3.cell? ⟨w1.heap.size, 1, none⟩ = some (.bool t) := N3.c 1
  have N3c2 : w3.cell? ⟨w1.heap.size, 2, none⟩ = some (.string z) := N3.c 2
  have N3c3 : w3.cell? ⟨w1.heap.size, 3, none⟩ = some (.string y) := N3.c 3
  go_wp2_with fail
  go_ret2
  exact ⟨rfl, N3.bl⟩
set_option maxRecDepth 100000 in
set_option maxHeartbeats 2000000 in
theorem in_EY_g (os arch nm bu z y file : ByteArray) (t x : Bool) (lv er at_ : Int) (p q s : Option Addr) (n m k cp cq cs : Nat) (w : World) (HO : Hid (∀ w1, Below w.heap.size w w1 → Calls Tryz.prog 17 #[.string file] w1 fun e w' => e = .returned (.agg #[.bool true, .bool t, .string z, .string y]) ∧ Below w1.heap.size w1 w')) (ho : z.toList.isEmpty = true) (hR : Hid (∀ w1, Below w.heap.size w w1 → Calls Tryz.prog 8 #[.agg #[.string os, .string arch, .bool true, .int .i64 lv, .slice p n cp], .string y] w1 fun e w' => e = .returned (.bool true) ∧ Below w1.heap.size w1 w')) (hr : y.toList.isEmpty = false) (HH : Hid (∀ w1, Below w.heap.size w w1 → Calls Tryz.prog 19 #[.agg #[.string os, .string arch, .bool true, .int .i64 lv, .slice p n cp], .string bu] w1 fun e w' => e = .returned (.tuple #[.bool true, .int .i64 0]) ∧ Below w1.heap.size w1 w')) (vn : Int) (HV : Hid (∀ w1, Calls Tryz.prog 22 #[.agg #[.bool true, .bool t, .string z, .string y], .string nm] w1 fun e w' => e = .returned (.int .i64 vn) ∧ Below w1.heap.size w1 w')) :
    Calls Tryz.prog 10 #[.agg #[.string os, .string arch, .bool true, .int .i64 lv, .slice p n cp], .string file, .agg #[.string nm, .slice q m cq, .string bu, .slice s k cs, .int .i64 0, .int .i64 at_]] w fun e w' => e = .returned (.tuple #[(.int .i64 vn), (.int .i64 0)]) ∧ Below w.heap.size w w' := by
  have M0 := mem2_new w #[.string os, .string arch, .bool true, .int .i64 lv, .slice p n cp] #[.string nm, .slice q m cq, .string bu, .slice s k cs, .int .i64 0, .int .i64 at_] 24 33
  have M0b := M0.bl
  go_enter Tryz.func10, Tryz.ntmps10
  go_wp2_with fail
  refine (HO.out _ M0b).mono ?_
  rintro e w1 ⟨rfl, hB1⟩
  have M1 := M0.next hB1
  have hl1 := M1.l
  have hl0 : w.heap.size < w1.heap.size := by omega
  have M1a0 : w1.cell? ⟨w.heap.size, 0, none⟩ = some (.string os) := M1.a 0
  have M1a1 : w1.cell? ⟨w.heap.size, 1, none⟩ = some (.string arch) := M1.a 1
  have M1a2 : w1.cell? ⟨w.heap.size, 2, none⟩ = some (.bool true) := M1.a 2
  have M1a3 : w1.cell? ⟨w.heap.size, 3, none⟩ = some (.int .i64 lv) := M1.a 3
  have M1a4 : w1.cell? ⟨w.heap.size, 4, none⟩ = some (.slice p n cp) := M1.a 4
  have M1b0 : w1.cell? ⟨w.heap.size + 1, 0, none⟩ = some (.string nm) := M1.b 0
  have M1b1 : w1.cell? ⟨w.heap.size + 1, 1, none⟩ = some (.slice q m cq) := M1.b 1
  have M1b2 : w1.cell? ⟨w.heap.size + 1, 2, none⟩ = some (.string bu) := M1.b 2
  have M1b3 : w1.cell? ⟨w.heap.size + 1, 3, none⟩ = some (.slice s k cs) := M1.b 3
  have M1b4 : w1.cell? ⟨w.heap.size + 1, 4, none⟩ = some (.int .i64 0) := M1.b 4
  have M1b5 : w1.cell? ⟨w.heap.size + 1, 5, none⟩ = some (.int .i64 at_) := M1.b 5
  have N := M1.more #[.bool true, .bool t, .string z, .string y] 44
  clear hB1 M0 M0b
  have Na0 : (w1.alloc (Obj.cells #[.bool true, .bool t, .string z, .string y] 44)).cell? ⟨w.heap.size, 0, none⟩ = some (.string os) := N.a 0
  have Na1 : (w1.alloc (Obj.cells #[.bool true, .bool t, .string z, .string y] 44)).cell? ⟨w.heap.size, 1, none⟩ = some (.string arch) := N.a 1
  have Na2 : (w1.alloc (Obj.cells #[.bool true, .bool t, .string z, .string y] 44)).cell? ⟨w.heap.size, 2, none⟩ = some (.bool true) := N.a 2
  have Na3 : (w1.alloc (Obj.cells #[.bool true, .bool t, .string z, .string y] 44)).cell? ⟨w.heap.size, 3, none⟩ = some (.int .i64 lv) := N.a 3
  have Na4 : (w1.alloc (Obj.cells #[.bool true, .bool t, .string z, .string y] 44)).cell? ⟨w.heap.size, 4, none⟩ = some (.slice p n cp) := N.a 4
  have Nb0 : (w1.alloc (Obj.cells #[.bool true, .bool t, .string z, .string y] 44)).cell? ⟨w.heap.size + 1, 0, none⟩ = some (.string nm) := N.b 0
  have Nb1 : (w1.alloc (Obj.cells #[.bool true, .bool t, .string z, .string y] 44)).cell? ⟨w.heap.size + 1, 1, none⟩ = some (.slice q m cq) := N.b 1
  have Nb2 : (w1.alloc (Obj.cells #[.bool true, .bool t, .string z, .string y] 44)).cell? ⟨w.heap.size + 1, 2, none⟩ = some (.string bu) := N.b 2
  have Nb3 : (w1.alloc (Obj.cells #[.bool true, .bool t, .string z, .string y] 44)).cell? ⟨w.heap.size + 1, 3, none⟩ = some (.slice s k cs) := N.b 3
  have Nb4 : (w1.alloc (Obj.cells #[.bool true, .bool t, .string z, .string y] 44)).cell? ⟨w.heap.size + 1, 4, none⟩ = some (.int .i64 0) := N.b 4
  have Nb5 : (w1.alloc (Obj.cells #[.bool true, .bool t, .string z, .string y] 44)).cell? ⟨w.heap.size + 1, 5, none⟩ = some (.int .i64 at_) := N.b 5
  go_wp2_with fail
  refine (hR.out _ N.bl).mono ?_
  rintro e w2 ⟨rfl, hB2⟩
  have N2 := N.next hB2
  have hl2 := N2.l2
  have hlb2 : w.heap.size + 1 < w2.heap.size := by have := N2.l1; omega
  have hlc2 : w.heap.size < w2.heap.size := by omega
  clear hB2
  have N2a0 : w2.cell? ⟨w.heap.size, 0, none⟩ = some (.string os) := N2.a 0
  have N2a1 : w2.cell? ⟨w.heap.size, 1, none⟩ = some (.string arch) := N2.a 1
  have N2a2 : w2.cell? ⟨w.heap.size, 2, none⟩ = some (.bool true) := N2.a 2
  have N2a3 : w2.cell? ⟨w.heap.size, 3, none⟩ = some (.int .i64 lv) := N2.a 3
  have N2a4 : w2.cell? ⟨w.heap.size, 4, none⟩ = some (.slice p n cp) := N2.a 4
  have N2b0 : w2.cell? ⟨w.heap.size + 1, 0, none⟩ = some (.string nm) := N2.b 0
  have N2b1 : w2.cell? ⟨w.heap.size + 1, 1, none⟩ = some (.slice q m cq) := N2.b 1
  have N2b2 : w2.cell? ⟨w.heap.size + 1, 2, none⟩ = some (.string bu) := N2.b 2
  have N2b3 : w2.cell? ⟨w.heap.size + 1, 3, none⟩ = some (.slice s k cs) := N2.b 3
  have N2b4 : w2.cell? ⟨w.heap.size + 1, 4, none⟩ = some (.int .i64 0) := N2.b 4
  have N2b5 : w2.cell? ⟨w.heap.size + 1, 5, none⟩ = some (.int .i64 at_) := N2.b 5
  have N2c0 : w2.cell? ⟨w1.heap.size, 0, none⟩ = some (.bool true) := N2.c 0
  have N2c1 : w2.cell? ⟨w1.heap.size, 1, none⟩ = some (.bool t) := N2.c 1
  have N2c2 : w2.cell? ⟨w1.heap.size, 2, none⟩ = some (.string z) := N2.c 2
  have N2c3 : w2.cell? ⟨w1.heap.size, 3, none⟩ = some (.string y) := N2.c 3
  go_wp2_with fail
  refine (HH.out _ N2.bl).mono ?_
  rintro e w3 ⟨rfl, hB3⟩
  have N3 := N2.next hB3
  have hl3 := N3.l2
  have hlb3 : w.heap.size + 1 < w3.heap.size := by have := N3.l1; omega
  have hlc3 : w.heap.size < w3.heap.size := by omega
  clear hB3
  have N3a0 : w3.cell? ⟨w.heap.size, 0, none⟩ = some (.string os) := N3.a 0
  have N3a1 : w3.cell? ⟨w.heap.size, 1, none⟩ = some (.string arch) := N3.a 1
  have N3a2 : w3.cell? ⟨w.heap.size, 2, none⟩ = some (.bool true) := N3.a 2
  have N3a3 : w3.cell? ⟨w.heap.size, 3, none⟩ = some (.int .i64 lv) := N3.a 3
  have N3a4 : w3.cell? ⟨w.heap.size, 4, none⟩ = some (.slice p n cp) := N3.a 4
  have N3b0 : w3.cell? ⟨w.heap.size + 1, 0, none⟩ = some (.string nm) := N3.b 0
  have N3b1 : w3.cell? ⟨w.heap.size + 1, 1, none⟩ = some (.slice q m cq) := N3.b 1
  have N3b2 : w3.cell? ⟨w.heap.size + 1, 2, none⟩ = some (.string bu) := N3.b 2
  have N3b3 : w3.cell? ⟨w.heap.size + 1, 3, none⟩ = some (.slice s k cs) := N3.b 3
  have N3b4 : w3.cell? ⟨w.heap.size + 1, 4, none⟩ = some (.int .i64 0) := N3.b 4
  have N3b5 : w3.cell? ⟨w.heap.size + 1, 5, none⟩ = some (.int .i64 at_) := N3.b 5
  have N3c0 : w3.cell? ⟨w1.heap.size, 0, none⟩ = some (.bool true) := N3.c 0
  have N3c1 : w3.cell? ⟨w1.heap.size, 1, none⟩ = some (.bool t) := N3.c 1
  have N3c2 : w3.cell? ⟨w1.heap.size, 2, none⟩ = some (.string z) := N3.c 2
  have N3c3 : w3.cell? ⟨w1.heap.size, 3, none⟩ = some (.string y) := N3.c 3
  go_wp2_with fail
  refine (HV.out _).mono ?_
  rintro e w4 ⟨rfl, hB4⟩
  have N4 := N3.next hB4
  have hl4 := N4.l2
  have hlb4 : w.heap.size + 1 < w4.heap.size := by have := N4.l1; omega
  have hlc4 : w.heap.size < w4.heap.size := by omega
  clear hB4
  have N4a0 : w4.cell? ⟨w.heap.size, 0, none⟩ = some (.string os) := N4.a 0
  have N4a1 : w4.cell? ⟨w.heap.size, 1, none⟩ = some (.string arch) := N4.a 1
  have N4a2 : w4.cell? ⟨w.heap.size, 2, none⟩ = some (.bool true) := N4.a 2
  have N4a3 : w4.cell? ⟨w.heap.size, 3, none⟩ = some (.int .i64 lv) := N4.a 3
  have N4a4 : w4.cell? ⟨w.heap.size, 4, none⟩ = some (.slice p n cp) := N4.a 4
  have N4b0 : w4.cell? ⟨w.heap.size + 1, 0, none⟩ = some (.string nm) := N4.b 0
  have N4b1 : w4.cell? ⟨w.heap.size + 1, 1, none⟩ = some (.slice q m cq) := N4.b 1
  have N4b2 : w4.cell? ⟨w.heap.size + 1, 2, none⟩ = some (.string bu) := N4.b 2
  have N4b3 : w4.cell? ⟨w.heap.size + 1, 3, none⟩ = some (.slice s k cs) := N4.b 3
  have N4b4 : w4.cell? ⟨w.heap.size + 1, 4, none⟩ = some (.int .i64 0) := N4.b 4
  have N4b5 : w4.cell? ⟨w.heap.size + 1, 5, none⟩ = some (.int .i64 at_) := N4.b 5
  have N4c0 : w4.cell? ⟨w1.heap.size, 0, none⟩ = some (.bool true) := N4.c 0
  have N4c1 : w4.cell? ⟨w1.heap.size, 1, none⟩ = some (.bool t) := N4.c 1
  have N4c2 : w4.cell? ⟨w1.heap.size, 2, none⟩ = some (.string z) := N4.c 2
  have N4c3 : w4.cell? ⟨w1.heap.size, 3, none⟩ = some (.string y) := N4.c 3
  go_wp2_with fail
  go_ret2
  exact ⟨rfl, N4.bl⟩
set_option maxRecDepth 100000 in
set_option maxHeartbeats 2000000 in
theorem in_EY_c (os arch nm bu z y file : ByteArray) (t x : Bool) (lv er at_ : Int) (p q s : Option Addr) (n m k cp cq cs : Nat) (w : World) (HO : Hid (∀ w1, Below w.heap.size w w1 → Calls Tryz.prog 17 #[.string file] w1 fun e w' => e = .returned (.agg #[.bool true, .bool t, .string z, .string y]) ∧ Below w1.heap.size w1 w')) (ho : z.toList.isEmpty = true) (hR : Hid (∀ w1, Below w.heap.size w w1 → Calls Tryz.prog 8 #[.agg #[.string os, .string arch, .bool false, .int .i64 lv, .slice p n cp], .string y] w1 fun e w' => e = .returned (.bool true) ∧ Below w1.heap.size w1 w')) (hr : y.toList.isEmpty = false) (HH : Hid (∀ w1, Below w.heap.size w w1 → Calls Tryz.prog 19 #[.agg #[.string os, .string arch, .bool false, .int .i64 lv, .slice p n cp], .string bu] w1 fun e w' => e = .returned (.tuple #[.bool true, .int .i64 0]) ∧ Below w1.heap.size w1 w')) (HC : Hid (∀ w1, Below w.heap.size w w1 → Calls Tryz.prog 20 #[.slice q m cq, .func (.func 21) #[] #[]] w1 fun e w' => e = .returned (.bool true) ∧ Below w1.heap.size w1 w')) :
    Calls Tryz.prog 10 #[.agg #[.string os, .string arch, .bool false, .int .i64 lv, .slice p n cp], .string file, .agg #[.string nm, .slice q m cq, .string bu, .slice s k cs, .int .i64 0, .int .i64 at_]] w fun e w' => e = .returned (.tuple #[(.int .i64 0), (.int .i64 0)]) ∧ Below w.heap.size w w' := by
  have M0 := mem2_new w #[.string os, .string arch, .bool false, .int .i64 lv, .slice p n cp] #[.string nm, .slice q m cq, .string bu, .slice s k cs, .int .i64 0, .int .i64 at_] 24 33
  have M0b := M0.bl
  go_enter Tryz.func10, Tryz.ntmps10
  go_wp2_with fail
  refine (HO.out _ M0b).mono ?_
  rintro e w1 ⟨rfl, hB1⟩
  have M1 := M0.next hB1
  have hl1 := M1.l
  have hl0 : w.heap.size < w1.heap.size := by omega
  have M1a0 : w1.cell? ⟨w.heap.size, 0, none⟩ = some (.string os) := M1.a 0
  have M1a1 : w1.cell? ⟨w.heap.size, 1, none⟩ = some (.string arch) := M1.a 1
  have M1a2 : w1.cell? ⟨w.heap.size, 2, none⟩ = some (.bool false) := M1.a 2
  have M1a3 : w1.cell? ⟨w.heap.size, 3, none⟩ = some (.int .i64 lv) := M1.a 3
  have M1a4 : w1.cell? ⟨w.heap.size, 4, none⟩ = some (.slice p n cp) := M1.a 4
  have M1b0 : w1.cell? ⟨w.heap.size + 1, 0, none⟩ = some (.string nm) := M1.b 0
  have M1b1 : w1.cell? ⟨w.heap.size + 1, 1, none⟩ = some (.slice q m cq) := M1.b 1
  have M1b2 : w1.cell? ⟨w.heap.size + 1, 2, none⟩ = some (.string bu) := M1.b 2
  have M1b3 : w1.cell? ⟨w.heap.size + 1, 3, none⟩ = some (.slice s k cs) := M1.b 3
  have M1b4 : w1.cell? ⟨w.heap.size + 1, 4, none⟩ = some (.int .i64 0) := M1.b 4
  have M1b5 : w1.cell? ⟨w.heap.size + 1, 5, none⟩ = some (.int .i64 at_) := M1.b 5
  have N := M1.more #[.bool true, .bool t, .string z, .string y] 44
  clear hB1 M0 M0b
  have Na0 : (w1.alloc (Obj.cells #[.bool true, .bool t, .string z, .string y] 44)).cell? ⟨w.heap.size, 0, none⟩ = some (.string os) := N.a 0
  have Na1 : (w1.alloc (Obj.cells #[.bool true, .bool t, .string z, .string y] 44)).cell? ⟨w.heap.size, 1, none⟩ = some (.string arch) := N.a 1
  have Na2 : (w1.alloc (Obj.cells #[.bool true, .bool t, .string z, .string y] 44)).cell? ⟨w.heap.size, 2, none⟩ = some (.bool false) := N.a 2
  have Na3 : (w1.alloc (Obj.cells #[.bool true, .bool t, .string z, .string y] 44)).cell? ⟨w.heap.size, 3, none⟩ = some (.int .i64 lv) := N.a 3
  have Na4 : (w1.alloc (Obj.cells #[.bool true, .bool t, .string z, .string y] 44)).cell? ⟨w.heap.size, 4, none⟩ = some (.slice p n cp) := N.a 4
  have Nb0 : (w1.alloc (Obj.cells #[.bool true, .bool t, .string z, .string y] 44)).cell? ⟨w.heap.size + 1, 0, none⟩ = some (.string nm) := N.b 0
  have Nb1 : (w1.alloc (Obj.cells #[.bool true, .bool t, .string z, .string y] 44)).cell? ⟨w.heap.size + 1, 1, none⟩ = some (.slice q m cq) := N.b 1
  have Nb2 : (w1.alloc (Obj.cells #[.bool true, .bool t, .string z, .string y] 44)).cell? ⟨w.heap.size + 1, 2, none⟩ = some (.string bu) := N.b 2
  have Nb3 : (w1.alloc (Obj.cells #[.bool true, .bool t, .string z, .string y] 44)).cell? ⟨w.heap.size + 1, 3, none⟩ = some (.slice s k cs) := N.b 3
  have Nb4 : (w1.alloc (Obj.cells #[.bool true, .bool t, .string z, .string y] 44)).cell? ⟨w.heap.size + 1, 4, none⟩ = some (.int .i64 0) := N.b 4
  have Nb5 : (w1.alloc (Obj.cells #[.bool true, .bool t, .string z, .string y] 44)).cell? ⟨w.heap.size + 1, 5, none⟩ = some (.int .i64 at_) := N.b 5
  go_wp2_with fail
  refine (hR.out _ N.bl).mono ?_
  rintro e w2 ⟨rfl, hB2⟩
  have N2 := N.next hB2
  have hl2 := N2.l2
  have hlb2 : w.heap.size + 1 < w2.heap.size := by have := N2.l1; omega
  have hlc2 : w.heap.size < w2.heap.size := by omega
  clear hB2
  have N2a0 : w2.cell? ⟨w.heap.size, 0, none⟩ = some (.string os) := N2.a 0
  have N2a1 : w2.cell? ⟨w.heap.size, 1, none⟩ = some (.string arch) := N2.a 1
  have N2a2 : w2.cell? ⟨w.heap.size, 2, none⟩ = some (.bool false) := N2.a 2
  have N2a3 : w2.cell? ⟨w.heap.size, 3, none⟩ = some (.int .i64 lv) := N2.a 3
  have N2a4 : w2.cell? ⟨w.heap.size, 4, none⟩ = some (.slice p n cp) := N2.a 4
  have N2b0 : w2.cell? ⟨w.heap.size + 1, 0, none⟩ = some (.string nm) := N2.b 0
  have N2b1 : w2.cell? ⟨w.heap.size + 1, 1, none⟩ = some (.slice q m cq) := N2.b 1
  have N2b2 : w2.cell? ⟨w.heap.size + 1, 2, none⟩ = some (.string bu) := N2.b 2
  have N2b3 : w2.cell? ⟨w.heap.size + 1, 3, none⟩ = some (.slice s k cs) := N2.b 3
  have N2b4 : w2.cell? ⟨w.heap.size + 1, 4, none⟩ = some (.int .i64 0) := N2.b 4
  have N2b5 : w2.cell? ⟨w.heap.size + 1, 5, none⟩ = some (.int .i64 at_) := N2.b 5
  have N2c0 : w2.cell? ⟨w1.heap.size, 0, none⟩ = some (.bool true) := N2.c 0
  have N2c1 : w2.cell? ⟨w1.heap.size, 1, none⟩ = some (.bool t) := N2.c 1
  have N2c2 : w2.cell? ⟨w1.heap.size, 2, none⟩ = some (.string z) := N2.c 2
  have N2c3 : w2.cell? ⟨w1.heap.size, 3, none⟩ = some (.string y) := N2.c 3
  go_wp2_with fail
  refine (HH.out _ N2.bl).mono ?_
  rintro e w3 ⟨rfl, hB3⟩
  have N3 := N2.next hB3
  have hl3 := N3.l2
  have hlb3 : w.heap.size + 1 < w3.heap.size := by have := N3.l1; omega
  have hlc3 : w.heap.size < w3.heap.size := by omega
  clear hB3
  have N3a0 : w3.cell? ⟨w.heap.size, 0, none⟩ = some (.string os) := N3.a 0
  have N3a1 : w3.cell? ⟨w.heap.size, 1, none⟩ = some (.string arch) := N3.a 1
  have N3a2 : w3.cell? ⟨w.heap.size, 2, none⟩ = some (.bool false) := N3.a 2
  have N3a3 : w3.cell? ⟨w.heap.size, 3, none⟩ = some (.int .i64 lv) := N3.a 3
  have N3a4 : w3.cell? ⟨w.heap.size, 4, none⟩ = some (.slice p n cp) := N3.a 4
  have N3b0 : w3.cell? ⟨w.heap.size + 1, 0, none⟩ = some (.string nm) := N3.b 0
  have N3b1 : w3.cell? ⟨w.heap.size + 1, 1, none⟩ = some (.slice q m cq) := N3.b 1
  have N3b2 : w3.cell? ⟨w.heap.size + 1, 2, none⟩ = some (.string bu) := N3.b 2
  have N3b3 : w3.cell? ⟨w.heap.size + 1, 3, none⟩ = some (.slice s k cs) := N3.b 3
  have N3b4 : w3.cell? ⟨w.heap.size + 1, 4, none⟩ = some (.int .i64 0) := N3.b 4
  have N3b5 : w3.cell? ⟨w.heap.size + 1, 5, none⟩ = some (.int .i64 at_) := N3.b 5
  have N3c0 : w3.cell? ⟨w1.heap.size, 0, none⟩ = some (.bool true) := N3.c 0
  have N3c1 : w3.cell? ⟨w1.heap.size, 1, none⟩ = some (.bool t) := N3.c 1
  have N3c2 : w3.cell? ⟨w1.heap.size, 2, none⟩ = some (.string z) := N3.c 2
  have N3c3 : w3.cell? ⟨w1.heap.size, 3, none⟩ = some (.string y) := N3.c 3
  go_wp2_with fail
  refine (HC.out _ N3.bl).mono ?_
  rintro e w4 ⟨rfl, hB4⟩
  have N4 := N3.next hB4
  have hl4 := N4.l2
  have hlb4 : w.heap.size + 1 < w4.heap.size := by have := N4.l1; omega
  have hlc4 : w.heap.size < w4.heap.size := by omega
  clear hB4
  have N4a0 : w4.cell? ⟨w.heap.size, 0, none⟩ = some (.string os) := N4.a 0
  have N4a1 : w4.cell? ⟨w.heap.size, 1, none⟩ = some (.string arch) := N4.a 1
  have N4a2 : w4.cell? ⟨w.heap.size, 2, none⟩ = some (.bool false) := N4.a 2
  have N4a3 : w4.cell? ⟨w.heap.size, 3, none⟩ = some (.int .i64 lv) := N4.a 3
  have N4a4 : w4.cell? ⟨w.heap.size, 4, none⟩ = some (.slice p n cp) := N4.a 4
  have N4b0 : w4.cell? ⟨w.heap.size + 1, 0, none⟩ = some (.string nm) := N4.b 0
  have N4b1 : w4.cell? ⟨w.heap.size + 1, 1, none⟩ = some (.slice q m cq) := N4.b 1
  have N4b2 : w4.cell? ⟨w.heap.size + 1, 2, none⟩ = some (.string bu) := N4.b 2
  have N4b3 : w4.cell? ⟨w.heap.size + 1, 3, none⟩ = some (.slice s k cs) := N4.b 3
  have N4b4 : w4.cell? ⟨w.heap.size + 1, 4, none⟩ = some (.int .i64 0) := N4.b 4
  have N4b5 : w4.cell? ⟨w.heap.size + 1, 5, none⟩ = some (.int .i64 at_) := N4.b 5
  have N4c0 : w4.cell? ⟨w1.heap.size, 0, none⟩ = some (.bool true) := N4.c 0
  have N4c1 : w4.cell? ⟨w1.heap.size, 1, none⟩ = some (.bool t) := N4.c 1
  have N4c2 : w4.cell? ⟨w1.heap.size, 2, none⟩ = some (.string z) := N4.c 2
  have N4c3 : w4.cell? ⟨w1.heap.size, 3, none⟩ = some (.string y) := N4.c 3
  go_wp2_with fail
  go_ret2
  exact ⟨rfl, N4.bl⟩
set_option maxRecDepth 100000 in
set_option maxHeartbeats 2000000 in
theorem in_EY_v (os arch nm bu z y file : ByteArray) (t x : Bool) (lv er at_ : Int) (p q s : Option Addr) (n m k cp cq cs : Nat) (w : World) (HO : Hid (∀ w1, Below w.heap.size w w1 → Calls Tryz.prog 17 #[.string file] w1 fun e w' => e = .returned (.agg #[.bool true, .bool t, .string z, .string y]) ∧ Below w1.heap.size w1 w')) (ho : z.toList.isEmpty = true) (hR : Hid (∀ w1, Below w.heap.size w w1 → Calls Tryz.prog 8 #[.agg #[.string os, .string arch, .bool false, .int .i64 lv, .slice p n cp], .string y] w1 fun e w' => e = .returned (.bool true) ∧ Below w1.heap.size w1 w')) (hr : y.toList.isEmpty = false) (HH : Hid (∀ w1, Below w.heap.size w w1 → Calls Tryz.prog 19 #[.agg #[.string os, .string arch, .bool false, .int .i64 lv, .slice p n cp], .string bu] w1 fun e w' => e = .returned (.tuple #[.bool true, .int .i64 0]) ∧ Below w1.heap.size w1 w')) (vn : Int) (HV : Hid (∀ w1, Calls Tryz.prog 22 #[.agg #[.bool true, .bool t, .string z, .string y], .string nm] w1 fun e w' => e = .returned (.int .i64 vn) ∧ Below w1.heap.size w1 w')) (HC : Hid (∀ w1, Below w.heap.size w w1 → Calls Tryz.prog 20 #[.slice q m cq, .func (.func 21) #[] #[]] w1 fun e w' => e = .returned (.bool false) ∧ Below w1.heap.size w1 w')) :
    Calls Tryz.prog 10 #[.agg #[.string os, .string arch, .bool false, .int .i64 lv, .slice p n cp], .string file, .agg #[.string nm, .slice q m cq, .string bu, .slice s k cs, .int .i64 0, .int .i64 at_]] w fun e w' => e = .returned (.tuple #[(.int .i64 vn), (.int .i64 0)]) ∧ Below w.heap.size w w' := by
  have M0 := mem2_new w #[.string os, .string arch, .bool false, .int .i64 lv, .slice p n cp] #[.string nm, .slice q m cq, .string bu, .slice s k cs, .int .i64 0, .int .i64 at_] 24 33
  have M0b := M0.bl
  go_enter Tryz.func10, Tryz.ntmps10
  go_wp2_with fail
  refine (HO.out _ M0b).mono ?_
  rintro e w1 ⟨rfl, hB1⟩
  have M1 := M0.next hB1
  have hl1 := M1.l
  have hl0 : w.heap.size < w1.heap.size := by omega
  have M1a0 : w1.cell? ⟨w.heap.size, 0, none⟩ = some (.string os) := M1.a 0
  have M1a1 : w1.cell? ⟨w.heap.size, 1, none⟩ = some (.string arch) := M1.a 1
  have M1a2 : w1.cell? ⟨w.heap.size, 2, none⟩ = some (.bool false) := M1.a 2
  have M1a3 : w1.cell? ⟨w.heap.size, 3, none⟩ = some (.int .i64 lv) := M1.a 3
  have M1a4 : w1.cell? ⟨w.heap.size, 4, none⟩ = some (.slice p n cp) := M1.a 4
  have M1b0 : w1.cell? ⟨w.heap.size + 1, 0, none⟩ = some (.string nm) := M1.b 0
  have M1b1 : w1.cell? ⟨w.heap.size + 1, 1, none⟩ = some (.slice q m cq) := M1.b 1
  have M1b2 : w1.cell? ⟨w.heap.size + 1, 2, none⟩ = some (.string bu) := M1.b 2
  have M1b3 : w1.cell? ⟨w.heap.size + 1, 3, none⟩ = some (.slice s k cs) := M1.b 3
  have M1b4 : w1.cell? ⟨w.heap.size + 1, 4, none⟩ = some (.int .i64 0) := M1.b 4
  have M1b5 : w1.cell? ⟨w.heap.size + 1, 5, none⟩ = some (.int .i64 at_) := M1.b 5
  have N := M1.more #[.bool true, .bool t, .string z, .string y] 44
  clear hB1 M0 M0b
  have Na0 : (w1.alloc (Obj.cells #[.bool true, .bool t, .string z, .string y] 44)).cell? ⟨w.heap.size, 0, none⟩ = some (.string os) := N.a 0
  have Na1 : (w1.alloc (Obj.cells #[.bool true, .bool t, .string z, .string y] 44)).cell? ⟨w.heap.size, 1, none⟩ = some (.string arch) := N.a 1
  have Na2 : (w1.alloc (Obj.cells #[.bool true, .bool t, .string z, .string y] 44)).cell? ⟨w.heap.size, 2, none⟩ = some (.bool false) := N.a 2
  have Na3 : (w1.alloc (Obj.cells #[.bool true, .bool t, .string z, .string y] 44)).cell? ⟨w.heap.size, 3, none⟩ = some (.int .i64 lv) := N.a 3
  have Na4 : (w1.alloc (Obj.cells #[.bool true, .bool t, .string z, .string y] 44)).cell? ⟨w.heap.size, 4, none⟩ = some (.slice p n cp) := N.a 4
  have Nb0 : (w1.alloc (Obj.cells #[.bool true, .bool t, .string z, .string y] 44)).cell? ⟨w.heap.size + 1, 0, none⟩ = some (.string nm) := N.b 0
  have Nb1 : (w1.alloc (Obj.cells #[.bool true, .bool t, .string z, .string y] 44)).cell? ⟨w.heap.size + 1, 1, none⟩ = some (.slice q m cq) := N.b 1
  have Nb2 : (w1.alloc (Obj.cells #[.bool true, .bool t, .string z, .string y] 44)).cell? ⟨w.heap.size + 1, 2, none⟩ = some (.string bu) := N.b 2
  have Nb3 : (w1.alloc (Obj.cells #[.bool true, .bool t, .string z, .string y] 44)).cell? ⟨w.heap.size + 1, 3, none⟩ = some (.slice s k cs) := N.b 3
  have Nb4 : (w1.alloc (Obj.cells #[.bool true, .bool t, .string z, .string y] 44)).cell? ⟨w.heap.size + 1, 4, none⟩ = some (.int .i64 0) := N.b 4
  have Nb5 : (w1.alloc (Obj.cells #[.bool true, .bool t, .string z, .string y] 44)).cell? ⟨w.heap.size + 1, 5, none⟩ = some (.int .i64 at_) := N.b 5
  go_wp2_with fail
  refine (hR.out _ N.bl).mono ?_
  rintro e w2 ⟨rfl, hB2⟩
  have N2 := N.next hB2
  have hl2 := N2.l2
  have hlb2 : w.heap.size + 1 < w2.heap.size := by have := N2.l1; omega
  have hlc2 : w.heap.size < w2.heap.size := by omega
  clear hB2
  have N2a0 : w2.cell? ⟨w.heap.size, 0, none⟩ = some (.string os) := N2.a 0
  have N2a1 : w2.cell? ⟨w.heap.size, 1, none⟩ = some (.string arch) := N2.a 1
  have N2a2 : w2.cell? ⟨w.heap.size, 2, none⟩ = some (.bool false) := N2.a 2
  have N2a3 : w2.cell? ⟨w.heap.size, 3, none⟩ = some (.int .i64 lv) := N2.a 3
  have N2a4 : w2.cell? ⟨w.heap.size, 4, none⟩ = some (.slice p n cp) := N2.a 4
  have N2b0 : w2.cell? ⟨w.heap.size + 1, 0, none⟩ = some (.string nm) := N2.b 0
  have N2b1 : w2.cell? ⟨w.heap.size + 1, 1, none⟩ = some (.slice q m cq) := N2.b 1
  have N2b2 : w2.cell? ⟨w.heap.size + 1, 2, none⟩ = some (.string bu) := N2.b 2
  have N2b3 : w2.cell? ⟨w.heap.size + 1, 3, none⟩ = some (.slice s k cs) := N2.b 3
  have N2b4 : w2.cell? ⟨w.heap.size + 1, 4, none⟩ = some (.int .i64 0) := N2.b 4
  have N2b5 : w2.cell? ⟨w.heap.size + 1, 5, none⟩ = some (.int .i64 at_) := N2.b 5
  have N2c0 : w2.cell? ⟨w1.heap.size, 0, none⟩ = some (.bool true) := N2.c 0
  have N2c1 : w2.cell? ⟨w1.heap.size, 1, none⟩ = some (.bool t) := N2.c 1
  have N2c2 : w2.cell? ⟨w1.heap.size, 2, none⟩ = some (.string z) := N2.c 2
  have N2c3 : w2.cell? ⟨w1.heap.size, 3, none⟩ = some (.string y) := N2.c 3
  go_wp2_with fail
  refine (HH.out _ N2.bl).mono ?_
  rintro e w3 ⟨rfl, hB3⟩
  have N3 := N2.next hB3
  have hl3 := N3.l2
  have hlb3 : w.heap.size + 1 < w3.heap.size := by have := N3.l1; omega
  have hlc3 : w.heap.size < w3.heap.size := by omega
  clear hB3
  have N3a0 : w3.cell? ⟨w.heap.size, 0, none⟩ = some (.string os) := N3.a 0
  have N3a1 : w3.cell? ⟨w.heap.size, 1, none⟩ = some (.string arch) := N3.a 1
  have N3a2 : w3.cell? ⟨w.heap.size, 2, none⟩ = some (.bool false) := N3.a 2
  have N3a3 : w3.cell? ⟨w.heap.size, 3, none⟩ = some (.int .i64 lv) := N3.a 3
  have N3a4 : w3.cell? ⟨w.heap.size, 4, none⟩ = some (.slice p n cp) := N3.a 4
  have N3b0 : w3.cell? ⟨w.heap.size + 1, 0, none⟩ = some (.string nm) := N3.b 0
  have N3b1 : w3.cell? ⟨w.heap.size + 1, 1, none⟩ = some (.slice q m cq) := N3.b 1
  have N3b2 : w3.cell? ⟨w.heap.size + 1, 2, none⟩ = some (.string bu) := N3.b 2
  have N3b3 : w3.cell? ⟨w.heap.size + 1, 3, none⟩ = some (.slice s k cs) := N3.b 3
  have N3b4 : w3.cell? ⟨w.heap.size + 1, 4, none⟩ = some (.int .i64 0) := N3.b 4
  have N3b5 : w3.cell? ⟨w.heap.size + 1, 5, none⟩ = some (.int .i64 at_) := N3.b 5
  have N3c0 : w3.cell? ⟨w1.heap.size, 0, none⟩ = some (.bool true) := N3.c 0
  have N3c1 : w3.cell? ⟨w1.heap.size, 1, none⟩ = some (.bool t) := N3.c 1
  have N3c2 : w3.cell? ⟨w1.heap.size, 2, none⟩ = some (.string z) := N3.c 2
  have N3c3 : w3.cell? ⟨w1.heap.size, 3, none⟩ = some (.string y) := N3.c 3
  go_wp2_with fail
  refine (HC.out _ N3.bl).mono ?_
  rintro e w4 ⟨rfl, hB4⟩
  have N4 := N3.next hB4
  have hl4 := N4.l2
  have hlb4 : w.heap.size + 1 < w4.heap.size := by have := N4.l1; omega
  have hlc4 : w.heap.size < w4.heap.size := by omega
  clear hB4
  have N4a0 : w4.cell? ⟨w.heap.size, 0, none⟩ = some (.string os) := N4.a 0
  have N4a1 : w4.cell? ⟨w.heap.size, 1, none⟩ = some (.string arch) := N4.a 1
  have N4a2 : w4.cell? ⟨w.heap.size, 2, none⟩ = some (.bool false) := N4.a 2
  have N4a3 : w4.cell? ⟨w.heap.size, 3, none⟩ = some (.int .i64 lv) := N4.a 3
  have N4a4 : w4.cell? ⟨w.heap.size, 4, none⟩ = some (.slice p n cp) := N4.a 4
  have N4b0 : w4.cell? ⟨w.heap.size + 1, 0, none⟩ = some (.string nm) := N4.b 0
  have N4b1 : w4.cell? ⟨w.heap.size + 1, 1, none⟩ = some (.slice q m cq) := N4.b 1
  have N4b2 : w4.cell? ⟨w.heap.size + 1, 2, none⟩ = some (.string bu) := N4.b 2
  have N4b3 : w4.cell? ⟨w.heap.size + 1, 3, none⟩ = some (.slice s k cs) := N4.b 3
  have N4b4 : w4.cell? ⟨w.heap.size + 1, 4, none⟩ = some (.int .i64 0) := N4.b 4
  have N4b5 : w4.cell? ⟨w.heap.size + 1, 5, none⟩ = some (.int .i64 at_) := N4.b 5
  have N4c0 : w4.cell? ⟨w1.heap.size, 0, none⟩ = some (.bool true) := N4.c 0
  have N4c1 : w4.cell? ⟨w1.heap.size, 1, none⟩ = some (.bool t) := N4.c 1
  have N4c2 : w4.cell? ⟨w1.heap.size, 2, none⟩ = some (.string z) := N4.c 2
  have N4c3 : w4.cell? ⟨w1.heap.size, 3, none⟩ = some (.string y) := N4.c 3
  go_wp2_with fail
  refine (HV.out _).mono ?_
  rintro e w5 ⟨rfl, hB5⟩
  have N5 := N4.next hB5
  have hl5 := N5.l2
  have hlb5 : w.heap.size + 1 < w5.heap.size := by have := N5.l1; omega
  have hlc5 : w.heap.size < w5.heap.size := by omega
  clear hB5
  have N5a0 : w5.cell? ⟨w.heap.size, 0, none⟩ = some (.string os) := N5.a 0
  have N5a1 : w5.cell? ⟨w.heap.size, 1, none⟩ = some (.string arch) := N5.a 1
  have N5a2 : w5.cell? ⟨w.heap.size, 2, none⟩ = some (.bool false) := N5.a 2
  have N5a3 : w5.cell? ⟨w.heap.size, 3, none⟩ = some (.int .i64 lv) := N5.a 3
  have N5a4 : w5.cell? ⟨w.heap.size, 4, none⟩ = some (.slice p n cp) := N5.a 4
  have N5b0 : w5.cell? ⟨w.heap.size + 1, 0, none⟩ = some (.string nm) := N5.b 0
  have N5b1 : w5.cell? ⟨w.heap.size + 1, 1, none⟩ = some (.slice q m cq) := N5.b 1
  have N5b2 : w5.cell? ⟨w.heap.size + 1, 2, none⟩ = some (.string bu) := N5.b 2
  have N5b3 : w5.cell? ⟨w.heap.size + 1, 3, none⟩ = some (.slice s k cs) := N5.b 3
  have N5b4 : w5.cell? ⟨w.heap.size + 1, 4, none⟩ = some (.int .i64 0) := N5.b 4
  have N5b5 : w5.cell? ⟨w.heap.size + 1, 5, none⟩ = some (.int .i64 at_) := N5.b 5
  have N5c0 : w5.cell? ⟨w1.heap.size, 0, none⟩ = some (.bool true) := N5.c 0
  have N5c1 : w5.cell? ⟨w1.heap.size, 1, none⟩ = some (.bool t) := N5.c 1
  have N5c2 : w5.cell? ⟨w1.heap.size, 2, none⟩ = some (.string z) := N5.c 2
  have N5c3 : w5.cell? ⟨w1.heap.size, 3, none⟩ = some (.string y) := N5.c 3
  go_wp2_with fail
  go_ret2
  exact ⟨rfl, N5.bl⟩
set_option maxRecDepth 100000 in
set_option maxHeartbeats 2000000 in
theorem in_YE_e (os arch nm bu z y file : ByteArray) (cgo t x : Bool) (lv er at_ : Int) (p q s : Option Addr) (n m k cp cq cs : Nat) (w : World) (HO : Hid (∀ w1, Below w.heap.size w w1 → Calls Tryz.prog 17 #[.string file] w1 fun e w' => e = .returned (.agg #[.bool true, .bool t, .string z, .string y]) ∧ Below w1.heap.size w1 w')) (hO : Hid (∀ w1, Below w.heap.size w w1 → Calls Tryz.prog 8 #[.agg #[.string os, .string arch, .bool cgo, .int .i64 lv, .slice p n cp], .string z] w1 fun e w' => e = .returned (.bool true) ∧ Below w1.heap.size w1 w')) (ho : z.toList.isEmpty = false) (hr : y.toList.isEmpty = true) (HH : Hid (∀ w1, Below w.heap.size w w1 → Calls Tryz.prog 19 #[.agg #[.string os, .string arch, .bool cgo, .int .i64 lv, .slice p n cp], .string bu] w1 fun e w' => e = .returned (.tuple #[.bool x, .int .i64 er]) ∧ Below w1.heap.size w1 w')) (her : (er != 0) = true) (kn : Int) (HF : Hid (∀ w1, Calls Tryz.prog 18 #[.agg #[.bool true, .bool t, .string z, .string y]] w1 fun e w' => e = .returned (.int .i64 kn) ∧ Below w1.heap.size w1 w')) :
    Calls Tryz.prog 10 #[.agg #[.string os, .string arch, .bool cgo, .int .i64 lv, .slice p n cp], .string file, .agg #[.string nm, .slice q m cq, .string bu, .slice s k cs, .int .i64 0, .int .i64 at_]] w fun e w' => e = .returned (.tuple #[(.int .i64 kn), (.int .i64 4)]) ∧ Below w.heap.size w w' := by
  have M0 := mem2_new w #[.string os, .string arch, .bool cgo, .int .i64 lv, .slice p n cp] #[.string nm, .slice q m cq, .string bu, .slice s k cs, .int .i64 0, .int .i64 at_] 24 33
  have M0b := M0.bl
  go_enter Tryz.func10, Tryz.ntmps10
  go_wp2_with fail
  refine (HO.out _ M0b).mono ?_
  rintro e w1 ⟨rfl, hB1⟩
  have M1 := M0.next hB1
  have hl1 := M1.l
  have hl0 : w.heap.size < w1.heap.size := by omega
  have M1a0 : w1.cell? ⟨w.heap.size, 0, none⟩ = some (.string os) := M1.a 0
  have M1a1 : w1.cell? ⟨w.heap.size, 1, none⟩ = some (.string arch) := M1.a 1
  have M1a2 : w1.cell? ⟨w.heap.size, 2, none⟩ = some (.bool cgo) := M1.a 2
  have M1a3 : w1.cell? ⟨w.heap.size, 3, none⟩ = some (.int .i64 lv) := M1.a 3
  have M1a4 : w1.cell? ⟨w.heap.size, 4, none⟩ = some (.slice p n cp) := M1.a 4
  have M1b0 : w1.cell? ⟨w.heap.size + 1, 0, none⟩ = some (.string nm) := M1.b 0
  have M1b1 : w1.cell? ⟨w.heap.size + 1, 1, none⟩ = some (.slice q m cq) := M1.b 1
  have M1b2 : w1.cell? ⟨w.heap.size + 1, 2, none⟩ = some (.string bu) := M1.b 2
  have M1b3 : w1.cell? ⟨w.heap.size + 1, 3, none⟩ = some (.slice s k cs) := M1.b 3
  have M1b4 : w1.cell? ⟨w.heap.size + 1, 4, none⟩ = some (.int .i64 0) := M1.b 4
  have M1b5 : w1.cell? ⟨w.heap.size + 1, 5, none⟩ = some (.int .i64 at_) := M1.b 5
  have N := M1.more #[.bool true, .bool t, .string z, .string y] 44
  clear hB1 M0 M0b
  have Na0 : (w1.alloc (Obj.cells #[.bool true, .bool t, .string z, .string y] 44)).cell? ⟨w.heap.size, 0, none⟩ = some (.string os) := N.a 0
  have Na1 : (w1.alloc (Obj.cells #[.bool true, .bool t, .string z, .string y] 44)).cell? ⟨w.heap.size, 1, none⟩ = some (.string arch) := N.a 1
  have Na2 : (w1.alloc (Obj.cells #[.bool true, .bool t, .string z, .string y] 44)).cell? ⟨w.heap.size, 2, none⟩ = some (.bool cgo) := N.a 2
  have Na3 : (w1.alloc (Obj.cells #[.bool true, .bool t, .string z, .string y] 44)).cell? ⟨w.heap.size, 3, none⟩ = some (.int .i64 lv) := N.a 3
  have Na4 : (w1.alloc (Obj.cells #[.bool true, .bool t, .string z, .string y] 44)).cell? ⟨w.heap.size, 4, none⟩ = some (.slice p n cp) := N.a 4
  have Nb0 : (w1.alloc (Obj.cells #[.bool true, .bool t, .string z, .string y] 44)).cell? ⟨w.heap.size + 1, 0, none⟩ = some (.string nm) := N.b 0
  have Nb1 : (w1.alloc (Obj.cells #[.bool true, .bool t, .string z, .string y] 44)).cell? ⟨w.heap.size + 1, 1, none⟩ = some (.slice q m cq) := N.b 1
  have Nb2 : (w1.alloc (Obj.cells #[.bool true, .bool t, .string z, .string y] 44)).cell? ⟨w.heap.size + 1, 2, none⟩ = some (.string bu) := N.b 2
  have Nb3 : (w1.alloc (Obj.cells #[.bool true, .bool t, .string z, .string y] 44)).cell? ⟨w.heap.size + 1, 3, none⟩ = some (.slice s k cs) := N.b 3
  have Nb4 : (w1.alloc (Obj.cells #[.bool true, .bool t, .string z, .string y] 44)).cell? ⟨w.heap.size + 1, 4, none⟩ = some (.int .i64 0) := N.b 4
  have Nb5 : (w1.alloc (Obj.cells #[.bool true, .bool t, .string z, .string y] 44)).cell? ⟨w.heap.size + 1, 5, none⟩ = some (.int .i64 at_) := N.b 5
  go_wp2_with fail
  refine (hO.out _ N.bl).mono ?_
  rintro e w2 ⟨rfl, hB2⟩
  have N2 := N.next hB2
  have hl2 := N2.l2
  have hlb2 : w.heap.size + 1 < w2.heap.size := by have := N2.l1; omega
  have hlc2 : w.heap.size < w2.heap.size := by omega
  clear hB2
  have N2a0 : w2.cell? ⟨w.heap.size, 0, none⟩ = some (.string os) := N2.a 0
  have N2a1 : w2.cell? ⟨w.heap.size, 1, none⟩ = some (.string arch) := N2.a 1
  have N2a2 : w2.cell? ⟨w.heap.size, 2, none⟩ = some (.bool cgo) := N2.a 2
  have N2a3 : w2.cell? ⟨w.heap.size, 3, none⟩ = some (.int .i64 lv) := N2.a 3
  have N2a4 : w2.cell? ⟨w.heap.size, 4, none⟩ = some (.slice p n cp) := N2.a 4
  have N2b0 : w2.cell? ⟨w.heap.size + 1, 0, none⟩ = some (.string nm) := N2.b 0
  have N2b1 : w2.cell? ⟨w.heap.size + 1, 1, none⟩ = some (.slice q m cq) := N2.b 1
  have N2b2 : w2.cell? ⟨w.heap.size + 1, 2, none⟩ = some (.string bu) := N2.b 2
  have N2b3 : w2.cell? ⟨w.heap.size + 1, 3, none⟩ = some (.slice s k cs) := N2.b 3
  have N2b4 : w2.cell? ⟨w.heap.size + 1, 4, none⟩ = some (.int .i64 0) := N2.b 4
  have N2b5 : w2.cell? ⟨w.heap.size + 1, 5, none⟩ = some (.int .i64 at_) := N2.b 5
  have N2c0 : w2.cell? ⟨w1.heap.size, 0, none⟩ = some (.bool true) := N2.c 0
  have N2c1 : w2.cell? ⟨w1.heap.size, 1, none⟩ = some (.bool t) := N2.c 1
  have N2c2 : w2.cell? ⟨w1.heap.size, 2, none⟩ = some (.string z) := N2.c 2
  have N2c3 : w2.cell? ⟨w1.heap.size, 3, none⟩ = some (.string y) := N2.c 3
  go_wp2_with fail
  refine (HH.out _ N2.bl).mono ?_
  rintro e w3 ⟨rfl, hB3⟩
  have N3 := N2.next hB3
  have hl3 := N3.l2
  have hlb3 : w.heap.size + 1 < w3.heap.size := by have := N3.l1; omega
  have hlc3 : w.heap.size < w3.heap.size := by omega
  clear hB3
  have N3a0 : w3.cell? ⟨w.heap.size, 0, none⟩ = some (.string os) := N3.a 0
  have N3a1 : w3.cell? ⟨w.heap.size, 1, none⟩ = some (.string arch) := N3.a 1
  have N3a2 : w3.cell? ⟨w.heap.size, 2, none⟩ = some (.bool cgo) := N3.a 2
  have N3a3 : w3.cell? ⟨w.heap.size, 3, none⟩ = some (.int .i64 lv) := N3.a 3
  have N3a4 : w3.cell? ⟨w.heap.size, 4, none⟩ = some (.slice p n cp) := N3.a 4
  have N3b0 : w3.cell? ⟨w.heap.size + 1, 0, none⟩ = some (.string nm) := N3.b 0
  have N3b1 : w3.cell? ⟨w.heap.size + 1, 1, none⟩ = some (.slice q m cq) := N3.b 1
  have N3b2 : w3.cell? ⟨w.heap.size + 1, 2, none⟩ = some (.string bu) := N3.b 2
  have N3b3 : w3.cell? ⟨w.heap.size + 1, 3, none⟩ = some (.slice s k cs) := N3.b 3
  have N3b4 : w3.cell? ⟨w.heap.size + 1, 4, none⟩ = some (.int .i64 0) := N3.b 4
  have N3b5 : w3.cell? ⟨w.heap.size + 1, 5, none⟩ = some (.int .i64 at_) := N3.b 5
  have N3c0 : w3.cell? ⟨w1.heap.size, 0, none⟩ = some (.bool true) := N3.c 0
  have N3c1 : w3.cell? ⟨w1.heap.size, 1, none⟩ = some (.bool t) := N3.c 1
  have N3c2 : w3.cell? ⟨w1.heap.size, 2, none⟩ = some (.string z) := N3.c 2
  have N3c3 : w3.cell? ⟨w1.heap.size, 3, none⟩ = some (.string y) := N3.c 3
  go_wp2_with fail
  refine (HF.out _).mono ?_
  rintro e w4 ⟨rfl, hB4⟩
  have N4 := N3.next hB4
  have hl4 := N4.l2
  have hlb4 : w.heap.size + 1 < w4.heap.size := by have := N4.l1; omega
  have hlc4 : w.heap.size < w4.heap.size := by omega
  clear hB4
  have N4a0 : w4.cell? ⟨w.heap.size, 0, none⟩ = some (.string os) := N4.a 0
  have N4a1 : w4.cell? ⟨w.heap.size, 1, none⟩ = some (.string arch) := N4.a 1
  have N4a2 : w4.cell? ⟨w.heap.size, 2, none⟩ = some (.bool cgo) := N4.a 2
  have N4a3 : w4.cell? ⟨w.heap.size, 3, none⟩ = some (.int .i64 lv) := N4.a 3
  have N4a4 : w4.cell? ⟨w.heap.size, 4, none⟩ = some (.slice p n cp) := N4.a 4
  have N4b0 : w4.cell? ⟨w.heap.size + 1, 0, none⟩ = some (.string nm) := N4.b 0
  have N4b1 : w4.cell? ⟨w.heap.size + 1, 1, none⟩ = some (.slice q m cq) := N4.b 1
  have N4b2 : w4.cell? ⟨w.heap.size + 1, 2, none⟩ = some (.string bu) := N4.b 2
  have N4b3 : w4.cell? ⟨w.heap.size + 1, 3, none⟩ = some (.slice s k cs) := N4.b 3
  have N4b4 : w4.cell? ⟨w.heap.size + 1, 4, none⟩ = some (.int .i64 0) := N4.b 4
  have N4b5 : w4.cell? ⟨w.heap.size + 1, 5, none⟩ = some (.int .i64 at_) := N4.b 5
  have N4c0 : w4.cell? ⟨w1.heap.size, 0, none⟩ = some (.bool true) := N4.c 0
  have N4c1 : w4.cell? ⟨w1.heap.size, 1, none⟩ = some (.bool t) := N4.c 1
  have N4c2 : w4.cell? ⟨w1.heap.size, 2, none⟩ = some (.string z) := N4.c 2
  have N4c3 : w4.cell? ⟨w1.heap.size, 3, none⟩ = some (.string y) := N4.c 3
  go_wp2_with fail
  go_ret2
  exact ⟨rfl, N4.bl⟩
set_option maxRecDepth 100000 in
set_option maxHeartbeats 2000000 in
theorem in_YE_f (os arch nm bu z y file : ByteArray) (cgo t x : Bool) (lv er at_ : Int) (p q s : Option Addr) (n m k cp cq cs : Nat) (w : World) (HO : Hid (∀ w1, Below w.heap.size w w1 → Calls Tryz.prog 17 #[.string file] w1 fun e w' => e = .returned (.agg #[.bool true, .bool t, .string z, .string y]) ∧ Below w1.heap.size w1 w')) (hO : Hid (∀ w1, Below w.heap.size w w1 → Calls Tryz.prog 8 #[.agg #[.string os, .string arch, .bool cgo, .int .i64 lv, .slice p n cp], .string z] w1 fun e w' => e = .returned (.bool true) ∧ Below w1.heap.size w1 w')) (ho : z.toList.isEmpty = false) (hr : y.toList.isEmpty = true) (HH : Hid (∀ w1, Below w.heap.size w w1 → Calls Tryz.prog 19 #[.agg #[.string os, .string arch, .bool cgo, .int .i64 lv, .slice p n cp], .string bu] w1 fun e w' => e = .returned (.tuple #[.bool false, .int .i64 0]) ∧ Below w1.heap.size w1 w')) :
    Calls Tryz.prog 10 #[.agg #[.string os, .string arch, .bool cgo, .int .i64 lv, .slice p n cp], .string file, .agg #[.string nm, .slice q m cq, .string bu, .slice s k cs, .int .i64 0, .int .i64 at_]] w fun e w' => e = .returned (.tuple #[(.int .i64 0), (.int .i64 0)]) ∧ Below w.heap.size w w' := by
  have M0 := mem2_new w #[.string os, .string arch, .bool cgo, .int .i64 lv, .slice p n cp] #[.string nm, .slice q m cq, .string bu, .slice s k cs, .int .i64 0, .int .i64 at_] 24 33
  have M0b := M0.bl
  go_enter Tryz.func10, Tryz.ntmps10
  go_wp2_with fail
  refine (HO.out _ M0b).mono ?_
  rintro e w1 ⟨rfl, hB1⟩
  have M1 := M0.next hB1
  have hl1 := M1.l
  have hl0 : w.heap.size < w1.heap.size := by omega
  have M1a0 : w1.cell? ⟨w.heap.size, 0, none⟩ = some (.string os) := M1.a 0
  have M1a1 : w1.cell? ⟨w.heap.size, 1, none⟩ = some (.string arch) := M1.a 1
  have M1a2 : w1.cell? ⟨w.heap.size, 2, none⟩ = some (.bool cgo) := M1.a 2
  have M1a3 : w1.cell? ⟨w.heap.size, 3, none⟩ = some (.int .i64 lv) := M1.a 3
  have M1a4 : w1.cell? ⟨w.heap.size, 4, none⟩ = some (.slice p n cp) := M1.a 4
  have M1b0 : w1.cell? ⟨w.heap.size + 1, 0, none⟩ = some (.string nm) := M1.b 0
  have M1b1 : w1.cell? ⟨w.heap.size + 1, 1, none⟩ = some (.slice q m cq) := M1.b 1
  have M1b2 : w1.cell? ⟨w.heap.size + 1, 2, none⟩ = some (.string bu) := M1.b 2
  have M1b3 : w1.cell? ⟨w.heap.size + 1, 3, none⟩ = some (.slice s k cs) := M1.b 3
  have M1b4 : w1.cell? ⟨w.heap.size + 1, 4, none⟩ = some (.int .i64 0) := M1.b 4
  have M1b5 : w1.cell? ⟨w.heap.size + 1, 5, none⟩ = some (.int .i64 at_) := M1.b 5
  have N := M1.more #[.bool true, .bool t, .string z, .string y] 44
  clear hB1 M0 M0b
  have Na0 : (w1.alloc (Obj.cells #[.bool true, .bool t, .string z, .string y] 44)).cell? ⟨w.heap.size, 0, none⟩ = some (.string os) := N.a 0
  have Na1 : (w1.alloc (Obj.cells #[.bool true, .bool t, .string z, .string y] 44)).cell? ⟨w.heap.size, 1, none⟩ = some (.string arch) := N.a 1
  have Na2 : (w1.alloc (Obj.cells #[.bool true, .bool t, .string z, .string y] 44)).cell? ⟨w.heap.size, 2, none⟩ = some (.bool cgo) := N.a 2
  have Na3 : (w1.alloc (Obj.cells #[.bool true, .bool t, .string z, .string y] 44)).cell? ⟨w.heap.size, 3, none⟩ = some (.int .i64 lv) := N.a 3
  have Na4 : (w1.alloc (Obj.cells #[.bool true, .bool t, .string z, .string y] 44)).cell? ⟨w.heap.size, 4, none⟩ = some (.slice p n cp) := N.a 4
  have Nb0 : (w1.alloc (Obj.cells #[.bool true, .bool t, .string z, .string y] 44)).cell? ⟨w.heap.size + 1, 0, none⟩ = some (.string nm) := N.b 0
  have Nb1 : (w1.alloc (Obj.cells #[.bool true, .bool t, .string z, .string y] 44)).cell? ⟨w.heap.size + 1, 1, none⟩ = some (.slice q m cq) := N.b 1
  have Nb2 : (w1.alloc (Obj.cells #[.bool true, .bool t, .string z, .string y] 44)).cell? ⟨w.heap.size + 1, 2, none⟩ = some (.string bu) := N.b 2
  have Nb3 : (w1.alloc (Obj.cells #[.bool true, .bool t, .string z, .string y] 44)).cell? ⟨w.heap.size + 1, 3, none⟩ = some (.slice s k cs) := N.b 3
  have Nb4 : (w1.alloc (Obj.cells #[.bool true, .bool t, .string z, .string y] 44)).cell? ⟨w.heap.size + 1, 4, none⟩ = some (.int .i64 0) := N.b 4
  have Nb5 : (w1.alloc (Obj.cells #[.bool true, .bool t, .string z, .string y] 44)).cell? ⟨w.heap.size + 1, 5, none⟩ = some (.int .i64 at_) := N.b 5
  go_wp2_with fail
  refine (hO.out _ N.bl).mono ?_
  rintro e w2 ⟨rfl, hB2⟩
  have N2 := N.next hB2
  have hl2 := N2.l2
  have hlb2 : w.heap.size + 1 < w2.heap.size := by have := N2.l1; omega
  have hlc2 : w.heap.size < w2.heap.size := by omega
  clear hB2
  have N2a0 : w2.cell? ⟨w.heap.size, 0, none⟩ = some (.string os) := N2.a 0
  have N2a1 : w2.cell? ⟨w.heap.size, 1, none⟩ = some (.string arch) := N2.a 1
  have N2a2 : w2.cell? ⟨w.heap.size, 2, none⟩ = some (.bool cgo) := N2.a 2
  have N2a3 : w2.cell? ⟨w.heap.size, 3, none⟩ = some (.int .i64 lv) := N2.a 3
  have N2a4 : w2.cell? ⟨w.heap.size, 4, none⟩ = some (.slice p n cp) := N2.a 4
  have N2b0 : w2.cell? ⟨w.heap.size + 1, 0, none⟩ = some (.string nm) := N2.b 0
  have N2b1 : w2.cell? ⟨w.heap.size + 1, 1, none⟩ = some (.slice q m cq) := N2.b 1
  have N2b2 : w2.cell? ⟨w.heap.size + 1, 2, none⟩ = some (.string bu) := N2.b 2
  have N2b3 : w2.cell? ⟨w.heap.size + 1, 3, none⟩ = some (.slice s k cs) := N2.b 3
  have N2b4 : w2.cell? ⟨w.heap.size + 1, 4, none⟩ = some (.int .i64 0) := N2.b 4
  have N2b5 : w2.cell? ⟨w.heap.size + 1, 5, none⟩ = some (.int .i64 at_) := N2.b 5
  have N2c0 : w2.cell? ⟨w1.heap.size, 0, none⟩ = some (.bool true) := N2.c 0
  have N2c1 : w2.cell? ⟨w1.heap.size, 1, none⟩ = some (.bool t) := N2.c 1
  have N2c2 : w2.cell? ⟨w1.heap.size, 2, none⟩ = some (.string z) := N2.c 2
  have N2c3 : w2.cell? ⟨w1.heap.size, 3, none⟩ = some (.string y) := N2.c 3
  go_wp2_with fail
  refine (HH.out _ N2.bl).mono ?_
  rintro e w3 ⟨rfl, hB3⟩
  have N3 := N2.next hB3
  have hl3 := N3.l2
  have hlb3 : w.heap.size + 1 < w3.heap.size := by have := N3.l1; omega
  have hlc3 : w.heap.size < w3.heap.size := by omega
  clear hB3
  have N3a0 : w3.cell? ⟨w.heap.size, 0, none⟩ = some (.string os) := N3.a 0
  have N3a1 : w3.cell? ⟨w.heap.size, 1, none⟩ = some (.string arch) := N3.a 1
  have N3a2 : w3.cell? ⟨w.heap.size, 2, none⟩ = some (.bool cgo) := N3.a 2
  have N3a3 : w3.cell? ⟨w.heap.size, 3, none⟩ = some (.int .i64 lv) := N3.a 3
  have N3a4 : w3.cell? ⟨w.heap.size, 4, none⟩ = some (.slice p n cp) := N3.a 4
  have N3b0 : w3.cell? ⟨w.heap.size + 1, 0, none⟩ = some (.string nm) := N3.b 0
  have N3b1 : w3.cell? ⟨w.heap.size + 1, 1, none⟩ = some (.slice q m cq) := N3.b 1
  have N3b2 : w3.cell? ⟨w.heap.size + 1, 2, none⟩ = some (.string bu) := N3.b 2
  have N3b3 : w3.cell? ⟨w.heap.size + 1, 3, none⟩ = some (.slice s k cs) := N3.b 3
  have N3b4 : w3.cell? ⟨w.heap.size + 1, 4, none⟩ = some (.int .i64 0) := N3.b 4
  have N3b5 : w3.cell? ⟨w.heap.size + 1, 5, none⟩ = some (.int .i64 at_) := N3.b 5
  have N3c0 : w3.cell? ⟨w1.heap.size, 0, none⟩ = some (.bool true) := N3.c 0
  have N3c1 : w3.cell? ⟨w1.heap.size, 1, none⟩ = some (.bool t) := N3.c 1
  have N3c2 : w3.cell? ⟨w1.heap.size, 2, none⟩ = some (.string z) := N3.c 2
  have N3c3 : w3.cell? ⟨w1.heap.size, 3, none⟩ = some (.string y) := N3.c 3
  go_wp2_with fail
  go_ret2
  exact ⟨rfl, N3.bl⟩
set_option maxRecDepth 100000 in
set_option maxHeartbeats 2000000 in
theorem in_YE_g (os arch nm bu z y file : ByteArray) (t x : Bool) (lv er at_ : Int) (p q s : Option Addr) (n m k cp cq cs : Nat) (w : World) (HO : Hid (∀ w1, Below w.heap.size w w1 → Calls Tryz.prog 17 #[.string file] w1 fun e w' => e = .returned (.agg #[.bool true, .bool t, .string z, .string y]) ∧ Below w1.heap.size w1 w')) (hO : Hid (∀ w1, Below w.heap.size w w1 → Calls Tryz.prog 8 #[.agg #[.string os, .string arch, .bool true, .int .i64 lv, .slice p n cp], .string z] w1 fun e w' => e = .returned (.bool true) ∧ Below w1.heap.size w1 w')) (ho : z.toList.isEmpty = false) (hr : y.toList.isEmpty = true) (HH : Hid (∀ w1, Below w.heap.size w w1 → Calls Tryz.prog 19 #[.agg #[.string os, .string arch, .bool true, .int .i64 lv, .slice p n cp], .string bu] w1 fun e w' => e = .returned (.tuple #[.bool true, .int .i64 0]) ∧ Below w1.heap.size w1 w')) (vn : Int) (HV : Hid (∀ w1, Calls Tryz.prog 22 #[.agg #[.bool true, .bool t, .string z, .string y], .string nm] w1 fun e w' => e = .returned (.int .i64 vn) ∧ Below w1.heap.size w1 w')) :
    Calls Tryz.prog 10 #[.agg #[.string os, .string arch, .bool true, .int .i64 lv, .slice p n cp], .string file, .agg #[.string nm, .slice q m cq, .string bu, .slice s k cs, .int .i64 0, .int .i64 at_]] w fun e w' => e = .returned (.tuple #[(.int .i64 vn), (.int .i64 0)]) ∧ Below w.heap.size w w' := by
  have M0 := mem2_new w #[.string os, .string arch, .bool true, .int .i64 lv, .slice p n cp] #[.string nm, .slice q m cq, .string bu, .slice s k cs, .int .i64 0, .int .i64 at_] 24 33
  have M0b := M0.bl
  go_enter Tryz.func10, Tryz.ntmps10
  go_wp2_with fail
  refine (HO.out _ M0b).mono ?_
  rintro e w1 ⟨rfl, hB1⟩
  have M1 := M0.next hB1
  have hl1 := M1.l
  have hl0 : w.heap.size < w1.heap.size := by omega
  have M1a0 : w1.cell? ⟨w.heap.size, 0, none⟩ = some (.string os) := M1.a 0
  have M1a1 : w1.cell? ⟨w.heap.size, 1, none⟩ = some (.string arch) := M1.a 1
  have M1a2 : w1.cell? ⟨w.heap.size, 2, none⟩ = some (.bool true) := M1.a 2
  have M1a3 : w1.cell? ⟨w.heap.size, 3, none⟩ = some (.int .i64 lv) := M1.a 3
  have M1a4 : w1.cell? ⟨w.heap.size, 4, none⟩ = some (.slice p n cp) := M1.a 4
  have M1b0 : w1.cell? ⟨w.heap.size + 1, 0, none⟩ = some (.string nm) := M1.b 0
  have M1b1 : w1.cell? ⟨w.heap.size + 1, 1, none⟩ = some (.slice q m cq) := M1.b 1
  have M1b2 : w1.cell? ⟨w.heap.size + 1, 2, none⟩ = some (.string bu) := M1.b 2
  have M1b3 : w1.cell? ⟨w.heap.size + 1, 3, none⟩ = some (.slice s k cs) := M1.b 3
  have M1b4 : w1.cell? ⟨w.heap.size + 1, 4, none⟩ = some (.int .i64 0) := M1.b 4
  have M1b5 : w1.cell? ⟨w.heap.size + 1, 5, none⟩ = some (.int .i64 at_) := M1.b 5
  have N := M1.more #[.bool true, .bool t, .string z, .string y] 44
  clear hB1 M0 M0b
  have Na0 : (w1.alloc (Obj.cells #[.bool true, .bool t, .string z, .string y] 44)).cell? ⟨w.heap.size, 0, none⟩ = some (.string os) := N.a 0
  have Na1 : (w1.alloc (Obj.cells #[.bool true, .bool t, .string z, .string y] 44)).cell? ⟨w.heap.size, 1, none⟩ = some (.string arch) := N.a 1
  have Na2 : (w1.alloc (Obj.cells #[.bool true, .bool t, .string z, .string y] 44)).cell? ⟨w.heap.size, 2, none⟩ = some (.bool true) := N.a 2
  have Na3 : (w1.alloc (Obj.cells #[.bool true, .bool t, .string z, .string y] 44)).cell? ⟨w.heap.size, 3, none⟩ = some (.int .i64 lv) := N.a 3
  have Na4 : (w1.alloc (Obj.cells #[.bool true, .bool t, .string z, .string y] 44)).cell? ⟨w.heap.size, 4, none⟩ = some (.slice p n cp) := N.a 4
  have Nb0 : (w1.alloc (Obj.cells #[.bool true, .bool t, .string z, .string y] 44)).cell? ⟨w.heap.size + 1, 0, none⟩ = some (.string nm) := N.b 0
  have Nb1 : (w1.alloc (Obj.cells #[.bool true, .bool t, .string z, .string y] 44)).cell? ⟨w.heap.size + 1, 1, none⟩ = some (.slice q m cq) := N.b 1
  have Nb2 : (w1.alloc (Obj.cells #[.bool true, .bool t, .string z, .string y] 44)).cell? ⟨w.heap.size + 1, 2, none⟩ = some (.string bu) := N.b 2
  have Nb3 : (w1.alloc (Obj.cells #[.bool true, .bool t, .string z, .string y] 44)).cell? ⟨w.heap.size + 1, 3, none⟩ = some (.slice s k cs) := N.b 3
  have Nb4 : (w1.alloc (Obj.cells #[.bool true, .bool t, .string z, .string y] 44)).cell? ⟨w.heap.size + 1, 4, none⟩ = some (.int .i64 0) := N.b 4
  have Nb5 : (w1.alloc (Obj.cells #[.bool true, .bool t, .string z, .string y] 44)).cell? ⟨w.heap.size + 1, 5, none⟩ = some (.int .i64 at_) := N.b 5
  go_wp2_with fail
  refine (hO.out _ N.bl).mono ?_
  rintro e w2 ⟨rfl, hB2⟩
  have N2 := N.next hB2
  have hl2 := N2.l2
  have hlb2 : w.heap.size + 1 < w2.heap.size := by have := N2.l1; omega
  have hlc2 : w.heap.size < w2.heap.size := by omega
  clear hB2
  have N2a0 : w2.cell? ⟨w.heap.size, 0, none⟩ = some (.string os) := N2.a 0
  have N2a1 : w2.cell? ⟨w.heap.size, 1, none⟩ = some (.string arch) := N2.a 1
  have N2a2 : w2.cell? ⟨w.heap.size, 2, none⟩ = some (.bool true) := N2.a 2
  have N2a3 : w2.cell? ⟨w.heap.size, 3, none⟩ = some (.int .i64 lv) := N2.a 3
  have N2a4 : w2.cell? ⟨w.heap.size, 4, none⟩ = some (.slice p n cp) := N2.a 4
  have N2b0 : w2.cell? ⟨w.heap.size + 1, 0, none⟩ = some (.string nm) := N2.b 0
  have N2b1 : w2.cell? ⟨w.heap.size + 1, 1, none⟩ = some (.slice q m cq) := N2.b 1
  have N2b2 : w2.cell? ⟨w.heap.size + 1, 2, none⟩ = some (.string bu) := N2.b 2
  have N2b3 : w2.cell? ⟨w.heap.size + 1, 3, none⟩ = some (.slice s k cs) := N2.b 3
  have N2b4 : w2.cell? ⟨w.heap.size + 1, 4, none⟩ = some (.int .i64 0) := N2.b 4
  have N2b5 : w2.cell? ⟨w.heap.size + 1, 5, none⟩ = some (.int .i64 at_) := N2.b 5
  have N2c0 : w2.cell? ⟨w1.heap.size, 0, none⟩ = some (.bool true) := N2.c 0
  have N2c1 : w2.cell? ⟨w1.heap.size, 1, none⟩ = some (.bool t) := N2.c 1
  have N2c2 : w2.cell? ⟨w1.heap.size, 2, none⟩ = some (.string z) := N2.c 2
  have N2c3 : w2.cell? ⟨w1.heap.size, 3, none⟩ = some (.string y) := N2.c 3
  go_wp2_with fail
  refine (HH.out _ N2.bl).mono ?_
  rintro e w3 ⟨rfl, hB3⟩
  have N3 := N2.next hB3
  have hl3 := N3.l2
  have hlb3 : w.heap.size + 1 < w3.heap.size := by have := N3.l1; omega
  have hlc3 : w.heap.size < w3.heap.size := by omega
  clear hB3
  have N3a0 : w3.cell? ⟨w.heap.size, 0, none⟩ = some (.string os) := N3.a 0
  have N3a1 : w3.cell? ⟨w.heap.size, 1, none⟩ = some (.string arch) := N3.a 1
  have N3a2 : w3.cell? ⟨w.heap.size, 2, none⟩ = some (.bool true) := N3.a 2
  have N3a3 : w3.cell? ⟨w.heap.size, 3, none⟩ = some (.int .i64 lv) := N3.a 3
  have N3a4 : w3.cell? ⟨w.heap.size, 4, none⟩ = some (.slice p n cp) := N3.a 4
  have N3b0 : w3.cell? ⟨w.heap.size + 1, 0, none⟩ = some (.string nm) := N3.b 0
  have N3b1 : w3.cell? ⟨w.heap.size + 1, 1, none⟩ = some (.slice q m cq) := N3.b 1
  have N3b2 : w3.cell? ⟨w.heap.size + 1, 2, none⟩ = some (.string bu) := N3.b 2
  have N3b3 : w3.cell? ⟨w.heap.size + 1, 3, none⟩ = some (.slice s k cs) := N3.b 3
  have N3b4 : w3.cell? ⟨w.heap.size + 1, 4, none⟩ = some (.int .i64 0) := N3.b 4
  have N3b5 : w3.cell? ⟨w.heap.size + 1, 5, none⟩ = some (.int .i64 at_) := N3.b 5
  have N3c0 : w3.cell? ⟨w1.heap.size, 0, none⟩ = some (.bool true) := N3.c 0
  have N3c1 : w3.cell? ⟨w1.heap.size, 1, none⟩ = some (.bool t) := N3.c 1
  have N3c2 : w3.cell? ⟨w1.heap.size, 2, none⟩ = some (.string z) := N3.c 2
  have N3c3 : w3.cell? ⟨w1.heap.size, 3, none⟩ = some (.string y) := N3.c 3
  go_wp2_with fail
  refine (HV.out _).mono ?_
  rintro e w4 ⟨rfl, hB4⟩
  have N4 := N3.next hB4
  have hl4 := N4.l2
  have hlb4 : w.heap.size + 1 < w4.heap.size := by have := N4.l1; omega
  have hlc4 : w.heap.size < w4.heap.size := by omega
  clear hB4
  have N4a0 : w4.cell? ⟨w.heap.size, 0, none⟩ = some (.string os) := N4.a 0
  have N4a1 : w4.cell? ⟨w.heap.size, 1, none⟩ = some (.string arch) := N4.a 1
  have N4a2 : w4.cell? ⟨w.heap.size, 2, none⟩ = some (.bool true) := N4.a 2
  have N4a3 : w4.cell? ⟨w.heap.size, 3, none⟩ = some (.int .i64 lv) := N4.a 3
  have N4a4 : w4.cell? ⟨w.heap.size, 4, none⟩ = some (.slice p n cp) := N4.a 4
  have N4b0 : w4.cell? ⟨w.heap.size + 1, 0, none⟩ = some (.string nm) := N4.b 0
  have N4b1 : w4.cell? ⟨w.heap.size + 1, 1, none⟩ = some (.slice q m cq) := N4.b 1
  have N4b2 : w4.cell? ⟨w.heap.size + 1, 2, none⟩ = some (.string bu) := N4.b 2
  have N4b3 : w4.cell? ⟨w.heap.size + 1, 3, none⟩ = some (.slice s k cs) := N4.b 3
  have N4b4 : w4.cell? ⟨w.heap.size + 1, 4, none⟩ = some (.int .i64 0) := N4.b 4
  have N4b5 : w4.cell? ⟨w.heap.size + 1, 5, none⟩ = some (.int .i64 at_) := N4.b 5
  have N4c0 : w4.cell? ⟨w1.heap.size, 0, none⟩ = some (.bool true) := N4.c 0
  have N4c1 : w4.cell? ⟨w1.heap.size, 1, none⟩ = some (.bool t) := N4.c 1
  have N4c2 : w4.cell? ⟨w1.heap.size, 2, none⟩ = some (.string z) := N4.c 2
  have N4c3 : w4.cell? ⟨w1.heap.size, 3, none⟩ = some (.string y) := N4.c 3
  go_wp2_with fail
  go_ret2
  exact ⟨rfl, N4.bl⟩
set_option maxRecDepth 100000 in
set_option maxHeartbeats 2000000 in
theorem in_YE_c (os arch nm bu z y file : ByteArray) (t x : Bool) (lv er at_ : Int) (p q s : Option Addr) (n m k cp cq cs : Nat) (w : World) (HO : Hid (∀ w1, Below w.heap.size w w1 → Calls Tryz.prog 17 #[.string file] w1 fun e w' => e = .returned (.agg #[.bool true, .bool t, .string z, .string y]) ∧ Below w1.heap.size w1 w')) (hO : Hid (∀ w1, Below w.heap.size w w1 → Calls Tryz.prog 8 #[.agg #[.string os, .string arch, .bool false, .int .i64 lv, .slice p n cp], .string z] w1 fun e w' => e = .returned (.bool true) ∧ Below w1.heap.size w1 w')) (ho : z.toList.isEmpty = false) (hr : y.toList.isEmpty = true) (HH : Hid (∀ w1, Below w.heap.size w w1 → Calls Tryz.prog 19 #[.agg #[.string os, .string arch, .bool false, .int .i64 lv, .slice p n cp], .string bu] w1 fun e w' => e = .returned (.tuple #[.bool true, .int .i64 0]) ∧ Below w1.heap.size w1 w')) (HC : Hid (∀ w1, Below w.heap.size w w1 → Calls Tryz.prog 20 #[.slice q m cq, .func (.func 21) #[] #[]] w1 fun e w' => e = .returned (.bool true) ∧ Below w1.heap.size w1 w')) :
    Calls Tryz.prog 10 #[.agg #[.string os, .string arch, .bool false, .int .i64 lv, .slice p n cp], .string file, .agg #[.string nm, .slice q m cq, .string bu, .slice s k cs, .int .i64 0, .int .i64 at_]] w fun e w' => e = .returned (.tuple #[(.int .i64 0), (.int .i64 0)]) ∧ Below w.heap.size w w' := by
  have M0 := mem2_new w #[.string os, .string arch, .bool false, .int .i64 lv, .slice p n cp] #[.string nm, .slice q m cq, .string bu, .slice s k cs, .int .i64 0, .int .i64 at_] 24 33
  have M0b := M0.bl
  go_enter Tryz.func10, Tryz.ntmps10
  go_wp2_with fail
  refine (HO.out _ M0b).mono ?_
  rintro e w1 ⟨rfl, hB1⟩
  have M1 := M0.next hB1
  have hl1 := M1.l
  have hl0 : w.heap.size < w1.heap.size := by omega
  have M1a0 : w1.cell? ⟨w.heap.size, 0, none⟩ = some (.string os) := M1.a 0
  have M1a1 : w1.cell? ⟨w.heap.size, 1, none⟩ = some (.string arch) := M1.a 1
  have M1a2 : w1.cell? ⟨w.heap.size, 2, none⟩ = some (.bool false) := M1.a 2
  have M1a3 : w1.cell? ⟨w.heap.size, 3, none⟩ = some (.int .i64 lv) := M1.a 3
  have M1a4 : w1.cell? ⟨w.heap.size, 4, none⟩ = some (.slice p n cp) := M1.a 4
  have M1b0 : w1.cell? ⟨w.heap.size + 1, 0, none⟩ = some (.string nm) := M1.b 0
  have M1b1 : w1.cell? ⟨w.heap.size + 1, 1, none⟩ = some (.slice q m cq) := M1.b 1
  have M1b2 : w1.cell? ⟨w.heap.size + 1, 2, none⟩ = some (.string bu) := M1.b 2
  have M1b3 : w1.cell? ⟨w.heap.size + 1, 3, none⟩ = some (.slice s k cs) := M1.b 3
  have M1b4 : w1.cell? ⟨w.heap.size + 1, 4, none⟩ = some (.int .i64 0) := M1.b 4
  have M1b5 : w1.cell? ⟨w.heap.size + 1, 5, none⟩ = some (.int .i64 at_) := M1.b 5
  have N := M1.more #[.bool true, .bool t, .string z, .string y] 44
  clear hB1 M0 M0b
  have Na0 : (w1.alloc (Obj.cells #[.bool true, .bool t, .string z, .string y] 44)).cell? ⟨w.heap.size, 0, none⟩ = some (.string os) := N.a 0
  have Na1 : (w1.alloc (Obj.cells #[.bool true, .bool t, .string z, .string y] 44)).cell? ⟨w.heap.size, 1, none⟩ = some (.string arch) := N.a 1
  have Na2 : (w1.alloc (Obj.cells #[.bool true, .bool t, .string z, .string y] 44)).cell? ⟨w.heap.size, 2, none⟩ = some (.bool false) := N.a 2
  have Na3 : (w1.alloc (Obj.cells #[.bool true, .bool t, .string z, .string y] 44)).cell? ⟨w.heap.size, 3, none⟩ = some (.int .i64 lv) := N.a 3
  have Na4 : (w1.alloc (Obj.cells #[.bool true, .bool t, .string z, .string y] 44)).cell? ⟨w.heap.size, 4, none⟩ = some (.slice p n cp) := N.a 4
  have Nb0 : (w1.alloc (Obj.cells #[.bool true, .bool t, .string z, .string y] 44)).cell? ⟨w.heap.size + 1, 0, none⟩ = some (.string nm) := N.b 0
  have Nb1 : (w1.alloc (Obj.cells #[.bool true, .bool t, .string z, .string y] 44)).cell? ⟨w.heap.size + 1, 1, none⟩ = some (.slice q m cq) := N.b 1
  have Nb2 : (w1.alloc (Obj.cells #[.bool true, .bool t, .string z, .string y] 44)).cell? ⟨w.heap.size + 1, 2, none⟩ = some (.string bu) := N.b 2
  have Nb3 : (w1.alloc (Obj.cells #[.bool true, .bool t, .string z, .string y] 44)).cell? ⟨w.heap.size + 1, 3, none⟩ = some (.slice s k cs) := N.b 3
  have Nb4 : (w1.alloc (Obj.cells #[.bool true, .bool t, .string z, .string y] 44)).cell? ⟨w.heap.size + 1, 4, none⟩ = some (.int .i64 0) := N.b 4
  have Nb5 : (w1.alloc (Obj.cells #[.bool true, .bool t, .string z, .string y] 44)).cell? ⟨w.heap.size + 1, 5, none⟩ = some (.int .i64 at_) := N.b 5
  go_wp2_with fail
  refine (hO.out _ N.bl).mono ?_
  rintro e w2 ⟨rfl, hB2⟩
  have N2 := N.next hB2
  have hl2 := N2.l2
  have hlb2 : w.heap.size + 1 < w2.heap.size := by have := N2.l1; omega
  have hlc2 : w.heap.size < w2.heap.size := by omega
  clear hB2
  have N2a0 : w2.cell? ⟨w.heap.size, 0, none⟩ = some (.string os) := N2.a 0
  have N2a1 : w2.cell? ⟨w.heap.size, 1, none⟩ = some (.string arch) := N2.a 1
  have N2a2 : w2.cell? ⟨w.heap.size, 2, none⟩ = some (.bool false) := N2.a 2
  have N2a3 : w2.cell? ⟨w.heap.size, 3, none⟩ = some (.int .i64 lv) := N2.a 3
  have N2a4 : w2.cell? ⟨w.heap.size, 4, none⟩ = some (.slice p n cp) := N2.a 4
  have N2b0 : w2.cell? ⟨w.heap.size + 1, 0, none⟩ = some (.string nm) := N2.b 0
  have N2b1 : w2.cell? ⟨w.heap.size + 1, 1, none⟩ = some (.slice q m cq) := N2.b 1
  have N2b2 : w2.cell? ⟨w.heap.size + 1, 2, none⟩ = some (.string bu) := N2.b 2
  have N2b3 : w2.cell? ⟨w.heap.size + 1, 3, none⟩ = some (.slice s k cs) := N2.b 3
  have N2b4 : w2.cell? ⟨w.heap.size + 1, 4, none⟩ = some (.int .i64 0) := N2.b 4
  have N2b5 : w2.cell? ⟨w.heap.size + 1, 5, none⟩ = some (.int .i64 at_) := N2.b 5
  have N2c0 : w2.cell? ⟨w1.heap.size, 0, none⟩ = some (.bool true) := N2.c 0
  have N2c1 : w2.cell? ⟨w1.heap.size, 1, none⟩ = some (.bool t) := N2.c 1
  have N2c2 : w2.cell? ⟨w1.heap.size, 2, none⟩ = some (.string z) := N2.c 2
  have N2c3 : w2.cell? ⟨w1.heap.size, 3, none⟩ = some (.string y) := N2.c 3
  go_wp2_with fail
  refine (HH.out _ N2.bl).mono ?_
  rintro e w3 ⟨rfl, hB3⟩
  have N3 := N2.next hB3
  have hl3 := N3.l2
  have hlb3 : w.heap.size + 1 < w3.heap.size := by have := N3.l1; omega
  have hlc3 : w.heap.size < w3.heap.size := by omega
  clear hB3
  have N3a0 : w3.cell? ⟨w.heap.size, 0, none⟩ = some (.string os) := N3.a 0
  have N3a1 : w3.cell? ⟨w.heap.size, 1, none⟩ = some (.string arch) := N3.a 1
  have N3a2 : w3.cell? ⟨w.heap.size, 2, none⟩ = some (.bool false) := N3.a 2
  have N3a3 : w3.cell? ⟨w.heap.size, 3, none⟩ = some (.int .i64 lv) := N3.a 3
  have N3a4 : w3.cell? ⟨w.heap.size, 4, none⟩ = some (.slice p n cp) := N3.a 4
  have N3b0 : w3.cell? ⟨w.heap.size + 1, 0, none⟩ = some (.string nm) := N3.b 0
  have N3b1 : w3.cell? ⟨w.heap.size + 1, 1, none⟩ = some (.slice q m cq) := N3.b 1
  have N3b2 : w3.cell? ⟨w.heap.size + 1, 2, none⟩ = some (.string bu) := N3.b 2
  have N3b3 : w3.cell? ⟨w.heap.size + 1, 3, none⟩ = some (.slice s k cs) := N3.b 3
  have N3b4 : w3.cell? ⟨w.heap.size + 1, 4, none⟩ = some (.int .i64 0) := N3.b 4
  have N3b5 : w3.cell? ⟨w.heap.size + 1, 5, none⟩ = some (.int .i64 at_) := N3.b 5
  have N3c0 : w3.cell? ⟨w1.heap.size, 0, none⟩ = some (.bool true) := N3.c 0
  have N3c1 : w3.cell? ⟨w1.heap.size, 1, none⟩ = some (.bool t) := N3.c 1
  have N3c2 : w3.cell? ⟨w1.heap.size, 2, none⟩ = some (.string z) := N3.c 2
  have N3c3 : w3.cell? ⟨w1.heap.size, 3, none⟩ = some (.string y) := N3.c 3
  go_wp2_with fail
  refine (HC.out _ N3.bl).mono ?_
  rintro e w4 ⟨rfl, hB4⟩
  have N4 := N3.next hB4
  have hl4 := N4.l2
  have hlb4 : w.heap.size + 1 < w4.heap.size := by have := N4.l1; omega
  have hlc4 : w.heap.size < w4.heap.size := by omega
  clear hB4
  have N4a0 : w4.cell? ⟨w.heap.size, 0, none⟩ = some (.string os) := N4.a 0
  have N4a1 : w4.cell? ⟨w.heap.size, 1, none⟩ = some (.string arch) := N4.a 1
  have N4a2 : w4.cell? ⟨w.heap.size, 2, none⟩ = some (.bool false) := N4.a 2
  have N4a3 : w4.cell? ⟨w.heap.size, 3, none⟩ = some (.int .i64 lv) := N4.a 3
  have N4a4 : w4.cell? ⟨w.heap.size, 4, none⟩ = some (.slice p n cp) := N4.a 4
  have N4b0 : w4.cell? ⟨w.heap.size + 1, 0, none⟩ = some (.string nm) := N4.b 0
  have N4b1 : w4.cell? ⟨w.heap.size + 1, 1, none⟩ = some (.slice q m cq) := N4.b 1
  have N4b2 : w4.cell? ⟨w.heap.size + 1, 2, none⟩ = some (.string bu) := N4.b 2
  have N4b3 : w4.cell? ⟨w.heap.size + 1, 3, none⟩ = some (.slice s k cs) := N4.b 3
  have N4b4 : w4.cell? ⟨w.heap.size + 1, 4, none⟩ = some (.int .i64 0) := N4.b 4
  have N4b5 : w4.cell? ⟨w.heap.size + 1, 5, none⟩ = some (.int .i64 at_) := N4.b 5
  have N4c0 : w4.cell? ⟨w1.heap.size, 0, none⟩ = some (.bool true) := N4.c 0
  have N4c1 : w4.cell? ⟨w1.heap.size, 1, none⟩ = some (.bool t) := N4.c 1
  have N4c2 : w4.cell? ⟨w1.heap.size, 2, none⟩ = some (.string z) := N4.c 2
  have N4c3 : w4.cell? ⟨w1.heap.size, 3, none⟩ = some (.string y) := N4.c 3
  go_wp2_with fail
  go_ret2
  exact ⟨rfl, N4.bl⟩
set_option maxRecDepth 100000 in
set_option maxHeartbeats 2000000 in
theorem in_YE_v (os arch nm bu z y file : ByteArray) (t x : Bool) (lv er at_ : Int) (p q s : Option Addr) (n m k cp cq cs : Nat) (w : World) (HO : Hid (∀ w1, Below w.heap.size w w1 → Calls Tryz.prog 17 #[.string file] w1 fun e w' => e = .returned (.agg #[.bool true, .bool t, .string z, .string y]) ∧ Below w1.heap.size w1 w')) (hO : Hid (∀ w1, Below w.heap.size w w1 → Calls Tryz.prog 8 #[.agg #[.string os, .string arch, .bool false, .int .i64 lv, .slice p n cp], .string z] w1 fun e w' => e = .returned (.bool true) ∧ Below w1.heap.size w1 w')) (ho : z.toList.isEmpty = false) (hr : y.toList.isEmpty = true) (HH : Hid (∀ w1, Below w.heap.size w w1 → Calls Tryz.prog 19 #[.agg #[.string os, .string arch, .bool false, .int .i64 lv, .slice p n cp], .string bu] w1 fun e w' => e = .returned (.tuple #[.bool true, .int .i64 0]) ∧ Below w1.heap.size w1 w')) (vn : Int) (HV : Hid (∀ w1, Calls Tryz.prog 22 #[.agg #[.bool true, .bool t, .string z, .string y], .string nm] w1 fun e w' => e = .returned (.int .i64 vn) ∧ Below w1.heap.size w1 w')) (HC : Hid (∀ w1, Below w.heap.size w w1 → Calls Tryz.prog 20 #[.slice q m cq, .func (.func 21) #[] #[]] w1 fun e w' => e = .returned (.bool false) ∧ Below w1.heap.size w1 w')) :
    Calls Tryz.prog 10 #[.agg #[.string os, .string arch, .bool false, .int .i64 lv, .slice p n cp], .string file, .agg #[.string nm, .slice q m cq, .string bu, .slice s k cs, .int .i64 0, .int .i64 at_]] w fun e w' => e = .returned (.tuple #[(.int .i64 vn), (.int .i64 0)]) ∧ Below w.heap.size w w' := by
  have M0 := mem2_new w #[.string os, .string arch, .bool false, .int .i64 lv, .slice p n cp] #[.string nm, .slice q m cq, .string bu, .slice s k cs, .int .i64 0, .int .i64 at_] 24 33
  have M0b := M0.bl
  go_enter Tryz.func10, Tryz.ntmps10
  go_wp2_with fail
  refine (HO.out _ M0b).mono ?_
  rintro e w1 ⟨rfl, hB1⟩
  have M1 := M0.next hB1
  have hl1 := M1.l
  have hl0 : w.heap.size < w1.heap.size := by omega
  have M1a0 : w1.cell? ⟨w.heap.size, 0, none⟩ = some (.string os) := M1.a 0
  have M1a1 : w1.cell? ⟨w.heap.size, 1, none⟩ = some (.string arch) := M1.a 1
  have M1a2 : w1.cell? ⟨w.heap.size, 2, none⟩ = some (.bool false) := M1.a 2
  have M1a3 : w1.cell? ⟨w.heap.size, 3, none⟩ = some (.int .i64 lv) := M1.a 3
  have M1a4 : w1.cell? ⟨w.heap.size, 4, none⟩ = some (.slice p n cp) := M1.a 4
  have M1b0 : w1.cell? ⟨w.heap.size + 1, 0, none⟩ = some (.string nm) := M1.b 0
  have M1b1 : w1.cell? ⟨w.heap.size + 1, 1, none⟩ = some (.slice q m cq) := M1.b 1
  have M1b2 : w1.cell? ⟨w.heap.size + 1, 2, none⟩ = some (.string bu) := M1.b 2
  have M1b3 : w1.cell? ⟨w.heap.size + 1, 3, none⟩ = some (.slice s k cs) := M1.b 3
  have M1b4 : w1.cell? ⟨w.heap.size + 1, 4, none⟩ = some (.int .i64 0) := M1.b 4
  have M1b5 : w1.cell? ⟨w.heap.size + 1, 5, none⟩ = some (.int .i64 at_) := M1.b 5
  have N := M1.more #[.bool true, .bool t, .string z, .string y] 44
  clear hB1 M0 M0b
  have Na0 : (w1.alloc (Obj.cells #[.bool true, .bool t, .string z, .string y] 44)).cell? ⟨w.heap.size, 0, none⟩ = some (.string os) := N.a 0
  have Na1 : (w1.alloc (Obj.cells #[.bool true, .bool t, .string z, .string y] 44)).cell? ⟨w.heap.size, 1, none⟩ = some (.string arch) := N.a 1
  have Na2 : (w1.alloc (Obj.cells #[.bool true, .bool t, .string z, .string y] 44)).cell? ⟨w.heap.size, 2, none⟩ = some (.bool false) := N.a 2
  have Na3 : (w1.alloc (Obj.cells #[.bool true, .bool t, .string z, .string y] 44)).cell? ⟨w.heap.size, 3, none⟩ = some (.int .i64 lv) := N.a 3
  have Na4 : (w1.alloc (Obj.cells #[.bool true, .bool t, .string z, .string y] 44)).cell? ⟨w.heap.size, 4, none⟩ = some (.slice p n cp) := N.a 4
  have Nb0 : (w1.alloc (Obj.cells #[.bool true, .bool t, .string z, .string y] 44)).cell? ⟨w.heap.size + 1, 0, none⟩ = some (.string nm) := N.b 0
  have Nb1 : (w1.alloc (Obj.cells #[.bool true, .bool t, .string z, .string y] 44)).cell? ⟨w.heap.size + 1, 1, none⟩ = some (.slice q m cq) := N.b 1
  have Nb2 : (w1.alloc (Obj.cells #[.bool true, .bool t, .string z, .string y] 44)).cell? ⟨w.heap.size + 1, 2, none⟩ = some (.string bu) := N.b 2
  have Nb3 : (w1.alloc (Obj.cells #[.bool true, .bool t, .string z, .string y] 44)).cell? ⟨w.heap.size + 1, 3, none⟩ = some (.slice s k cs) := N.b 3
  have Nb4 : (w1.alloc (Obj.cells #[.bool true, .bool t, .string z, .string y] 44)).cell? ⟨w.heap.size + 1, 4, none⟩ = some (.int .i64 0) := N.b 4
  have Nb5 : (w1.alloc (Obj.cells #[.bool true, .bool t, .string z, .string y] 44)).cell? ⟨w.heap.size + 1, 5, none⟩ = some (.int .i64 at_) := N.b 5
  go_wp2_with fail
  refine (hO.out _ N.bl).mono ?_
  rintro e w2 ⟨rfl, hB2⟩
  have N2 := N.next hB2
  have hl2 := N2.l2
  have hlb2 : w.heap.size + 1 < w2.heap.size := by have := N2.l1; omega
  have hlc2 : w.heap.size < w2.heap.size := by omega
  clear hB2
  have N2a0 : w2.cell? ⟨w.heap.size, 0, none⟩ = some (.string os) := N2.a 0
  have N2a1 : w2.cell? ⟨w.heap.size, 1, none⟩ = some (.string arch) := N2.a 1
  have N2a2 : w2.cell? ⟨w.heap.size, 2, none⟩ = some (.bool false) := N2.a 2
  have N2a3 : w2.cell? ⟨w.heap.size, 3, none⟩ = some (.int .i64 lv) := N2.a 3
  have N2a4 : w2.cell? ⟨w.heap.size, 4, none⟩ = some (.slice p n cp) := N2.a 4
  have N2b0 : w2.cell? ⟨w.heap.size + 1, 0, none⟩ = some (.string nm) := N2.b 0
  have N2b1 : w2.cell? ⟨w.heap.size + 1, 1, none⟩ = some (.slice q m cq) := N2.b 1
  have N2b2 : w2.cell? ⟨w.heap.size + 1, 2, none⟩ = some (.string bu) := N2.b 2
  have N2b3 : w2.cell? ⟨w.heap.size + 1, 3, none⟩ = some (.slice s k cs) := N2.b 3
  have N2b4 : w2.cell? ⟨w.heap.size + 1, 4, none⟩ = some (.int .i64 0) := N2.b 4
  have N2b5 : w2.cell? ⟨w.heap.size + 1, 5, none⟩ = some (.int .i64 at_) := N2.b 5
  have N2c0 : w2.cell? ⟨w1.heap.size, 0, none⟩ = some (.bool true) := N2.c 0
  have N2c1 : w2.cell? ⟨w1.heap.size, 1, none⟩ = some (.bool t) := N2.c 1
  have N2c2 : w2.cell? ⟨w1.heap.size, 2, none⟩ = some (.string z) := N2.c 2
  have N2c3 : w2.cell? ⟨w1.heap.size, 3, none⟩ = some (.string y) := N2.c 3
  go_wp2_with fail
  refine (HH.out _ N2.bl).mono ?_
  rintro e w3 ⟨rfl, hB3⟩
  have N3 := N2.next hB3
  have hl3 := N3.l2
  have hlb3 : w.heap.size + 1 < w3.heap.size := by have := N3.l1; omega
  have hlc3 : w.heap.size < w3.heap.size := by omega
  clear hB3
  have N3a0 : w3.cell? ⟨w.heap.size, 0, none⟩ = some (.string os) := N3.a 0
  have N3a1 : w3.cell? ⟨w.heap.size, 1, none⟩ = some (.string arch) := N3.a 1
  have N3a2 : w3.cell? ⟨w.heap.size, 2, none⟩ = some (.bool false) := N3.a 2
  have N3a3 : w3.cell? ⟨w.heap.size, 3, none⟩ = some (.int .i64 lv) := N3.a 3
  have N3a4 : w3.cell? ⟨w.heap.size, 4, none⟩ = some (.slice p n cp) := N3.a 4
  have N3b0 : w3.cell? ⟨w.heap.size + 1, 0, none⟩ = some (.string nm) := N3.b 0
  have N3b1 : w3.cell? ⟨w.heap.size + 1, 1, none⟩ = some (.slice q m cq) := N3.b 1
  have N3b2 : w3.cell? ⟨w.heap.size + 1, 2, none⟩ = some (.string bu) := N3.b 2
  have N3b3 : w3.cell? ⟨w.heap.size + 1, 3, none⟩ = some (.slice s k cs) := N3.b 3
  have N3b4 : w3.cell? ⟨w.heap.size + 1, 4, none⟩ = some (.int .i64 0) := N3.b 4
  have N3b5 : w3.cell? ⟨w.heap.size + 1, 5, none⟩ = some (.int .i64 at_) := N3.b 5
  have N3c0 : w3.cell? ⟨w1.heap.size, 0, none⟩ = some (.bool true) := N3.c 0
  have N3c1 : w3.cell? ⟨w1.heap.size, 1, none⟩ = some (.bool t) := N3.c 1
  have N3c2 : w3.cell? ⟨w1.heap.size, 2, none⟩ = some (.string z) := N3.c 2
  have N3c3 : w3.cell? ⟨w1.heap.size, 3, none⟩ = some (.string y) := N3.c 3
  go_wp2_with fail
  refine (HC.out _ N3.bl).mono ?_
  rintro e w4 ⟨rfl, hB4⟩
  have N4 := N3.next hB4
  have hl4 := N4.l2
  have hlb4 : w.heap.size + 1 < w4.heap.size := by have := N4.l1; omega
  have hlc4 : w.heap.size < w4.heap.size := by omega
  clear hB4
  have N4a0 : w4.cell? ⟨w.heap.size, 0, none⟩ = some (.string os) := N4.a 0
  have N4a1 : w4.cell? ⟨w.heap.size, 1, none⟩ = some (.string arch) := N4.a 1
  have N4a2 : w4.cell? ⟨w.heap.size, 2, none⟩ = some (.bool false) := N4.a 2
  have N4a3 : w4.cell? ⟨w.heap.size, 3, none⟩ = some (.int .i64 lv) := N4.a 3
  have N4a4 : w4.cell? ⟨w.heap.size, 4, none⟩ = some (.slice p n cp) := N4.a 4
  have N4b0 : w4.cell? ⟨w.heap.size + 1, 0, none⟩ = some (.string nm) := N4.b 0
  have N4b1 : w4.cell? ⟨w.heap.size + 1, 1, none⟩ = some (.slice q m cq) := N4.b 1
  have N4b2 : w4.cell? ⟨w.heap.size + 1, 2, none⟩ = some (.string bu) := N4.b 2
  have N4b3 : w4.cell? ⟨w.heap.size + 1, 3, none⟩ = some (.slice s k cs) := N4.b 3
  have N4b4 : w4.cell? ⟨w.heap.size + 1, 4, none⟩ = some (.int .i64 0) := N4.b 4
  have N4b5 : w4.cell? ⟨w.heap.size + 1, 5, none⟩ = some (.int .i64 at_) := N4.b 5
  have N4c0 : w4.cell? ⟨w1.heap.size, 0, none⟩ = some (.bool true) := N4.c 0
  have N4c1 : w4.cell? ⟨w1.heap.size, 1, none⟩ = some (.bool t) := N4.c 1
  have N4c2 : w4.cell? ⟨w1.heap.size, 2, none⟩ = some (.string z) := N4.c 2
  have N4c3 : w4.cell? ⟨w1.heap.size, 3, none⟩ = some (.string y) := N4.c 3
  go_wp2_with fail
  refine (HV.out _).mono ?_
  rintro e w5 ⟨rfl, hB5⟩
  have N5 := N4.next hB5
  have hl5 := N5.l2
  have hlb5 : w.heap.size + 1 < w5.heap.size := by have := N5.l1; omega
  have hlc5 : w.heap.size < w5.heap.size := by omega
  clear hB5
  have N5a0 : w5.cell? ⟨w.heap.size, 0, none⟩ = some (.string os) := N5.a 0
  have N5a1 : w5.cell? ⟨w.heap.size, 1, none⟩ = some (.string arch) := N5.a 1
  have N5a2 : w5.cell? ⟨w.heap.size, 2, none⟩ = some (.bool false) := N5.a 2
  have N5a3 : w5.cell? ⟨w.heap.size, 3, none⟩ = some (.int .i64 lv) := N5.a 3
  have N5a4 : w5.cell? ⟨w.heap.size, 4, none⟩ = some (.slice p n cp) := N5.a 4
  have N5b0 : w5.cell? ⟨w.heap.size + 1, 0, none⟩ = some (.string nm) := N5.b 0
  have N5b1 : w5.cell? ⟨w.heap.size + 1, 1, none⟩ = some (.slice q m cq) := N5.b 1
  have N5b2 : w5.cell? ⟨w.heap.size + 1, 2, none⟩ = some (.string bu) := N5.b 2
  have N5b3 : w5.cell? ⟨w.heap.size + 1, 3, none⟩ = some (.slice s k cs) := N5.b 3
  have N5b4 : w5.cell? ⟨w.heap.size + 1, 4, none⟩ = some (.int .i64 0) := N5.b 4
  have N5b5 : w5.cell? ⟨w.heap.size + 1, 5, none⟩ = some (.int .i64 at_) := N5.b 5
  have N5c0 : w5.cell? ⟨w1.heap.size, 0, none⟩ = some (.bool true) := N5.c 0
  have N5c1 : w5.cell? ⟨w1.heap.size, 1, none⟩ = some (.bool t) := N5.c 1
  have N5c2 : w5.cell? ⟨w1.heap.size, 2, none⟩ = some (.string z) := N5.c 2
  have N5c3 : w5.cell? ⟨w1.heap.size, 3, none⟩ = some (.string y) := N5.c 3
  go_wp2_with fail
  go_ret2
  exact ⟨rfl, N5.bl⟩
set_option maxRecDepth 100000 in
set_option maxHeartbeats 2000000 in
theorem in_YY_e (os arch nm bu z y file : ByteArray) (cgo t x : Bool) (lv er at_ : Int) (p q s : Option Addr) (n m k cp cq cs : Nat) (w : World) (HO : Hid (∀ w1, Below w.heap.size w w1 → Calls Tryz.prog 17 #[.string file] w1 fun e w' => e = .returned (.agg #[.bool true, .bool t, .string z, .string y]) ∧ Below w1.heap.size w1 w')) (hO : Hid (∀ w1, Below w.heap.size w w1 → Calls Tryz.prog 8 #[.agg #[.string os, .string arch, .bool cgo, .int .i64 lv, .slice p n cp], .string z] w1 fun e w' => e = .returned (.bool true) ∧ Below w1.heap.size w1 w')) (ho : z.toList.isEmpty = false) (hR : Hid (∀ w1, Below w.heap.size w w1 → Calls Tryz.prog 8 #[.agg #[.string os, .string arch, .bool cgo, .int .i64 lv, .slice p n cp], .string y] w1 fun e w' => e = .returned (.bool true) ∧ Below w1.heap.size w1 w')) (hr : y.toList.isEmpty = false) (HH : Hid (∀ w1, Below w.heap.size w w1 → Calls Tryz.prog 19 #[.agg #[.string os, .string arch, .bool cgo, .int .i64 lv, .slice p n cp], .string bu] w1 fun e w' => e = .returned (.tuple #[.bool x, .int .i64 er]) ∧ Below w1.heap.size w1 w')) (her : (er != 0) = true) (kn : Int) (HF : Hid (∀ w1, Calls Tryz.prog 18 #[.agg #[.bool true, .bool t, .string z, .string y]] w1 fun e w' => e = .returned (.int .i64 kn) ∧ Below w1.heap.size w1 w')) :
    Calls Tryz.prog 10 #[.agg #[.string os, .string arch, .bool cgo, .int .i64 lv, .slice p n cp], .string file, .agg #[.string nm, .slice q m cq, .string bu, .slice s k cs, .int .i64 0, .int .i64 at_]] w fun e w' => e = .returned (.tuple #[(.int .i64 kn), (.int .i64 4)]) ∧ Below w.heap.size w w' := by
  have M0 := mem2_new w #[.string os, .string arch, .bool cgo, .int .i64 lv, .slice p n cp] #[.string nm, .slice q m cq, .string bu, .slice s k cs, .int .i64 0, .int .i64 at_] 24 33
  have M0b := M0.bl
  go_enter Tryz.func10, Tryz.ntmps10
  go_wp2_with fail
  refine (HO.out _ M0b).mono ?_
  rintro e w1 ⟨rfl, hB1⟩
  have M1 := M0.next hB1
  have hl1 := M1.l
  have hl0 : w.heap.size < w1.heap.size := by omega
  have M1a0 : w1.cell? ⟨w.heap.size, 0, none⟩ = some (.string os) := M1.a 0
  have M1a1 : w1.cell? ⟨w.heap.size, 1, none⟩ = some (.string arch) := M1.a 1
  have M1a2 : w1.cell? ⟨w.heap.size, 2, none⟩ = some (.bool cgo) := M1.a 2
  have M1a3 : w1.cell? ⟨w.heap.size, 3, none⟩ = some (.int .i64 lv) := M1.a 3
  have M1a4 : w1.cell? ⟨w.heap.size, 4, none⟩ = some (.slice p n cp) := M1.a 4
  have M1b0 : w1.cell? ⟨w.heap.size + 1, 0, none⟩ = some (.string nm) := M1.b 0
  have M1b1 : w1.cell? ⟨w.heap.size + 1, 1, none⟩ = some (.slice q m cq) := M1.b 1
  have M1b2 : w1.cell? ⟨w.heap.size + 1, 2, none⟩ = some (.string bu) := M1.b 2
  have M1b3 : w1.cell? ⟨w.heap.size + 1, 3, none⟩ = some (.slice s k cs) := M1.b 3
  have M1b4 : w1.cell? ⟨w.heap.size + 1, 4, none⟩ = some (.int .i64 0) := M1.b 4
  have M1b5 : w1.cell? ⟨w.heap.size + 1, 5, none⟩ = some (.int .i64 at_) := M1.b 5
  have N := M1.more #[.bool true, .bool t, .string z, .string y] 44
  clear hB1 M0 M0b
  have Na0 : (w1.alloc (Obj.cells #[.bool true, .bool t, .string z, .string y] 44)).cell? ⟨w.heap.size, 0, none⟩ = some (.string os) := N.a 0
  have Na1 : (w1.alloc (Obj.cells #[.bool true, .bool t, .string z, .string y] 44)).cell? ⟨w.heap.size, 1, none⟩ = some (.string arch) := N.a 1
  have Na2 : (w1.alloc (Obj.cells #[.bool true, .bool t, .string z, .string y] 44)).cell? ⟨w.heap.size, 2, none⟩ = some (.bool cgo) := N.a 2
  have Na3 : (w1.alloc (Obj.cells #[.bool true, .bool t, .string z, .string y] 44)).cell? ⟨w.heap.size, 3, none⟩ = some (.int .i64 lv) := N.a 3
  have Na4 : (w1.alloc (Obj.cells #[.bool true, .bool t, .string z, .string y] 44)).cell? ⟨w.heap.size, 4, none⟩ = some (.slice p n cp) := N.a 4
  have Nb0 : (w1.alloc (Obj.cells #[.bool true, .bool t, .string z, .string y] 44)).cell? ⟨w.heap.size + 1, 0, none⟩ = some (.string nm) := N.b 0
  have Nb1 : (w1.alloc (Obj.cells #[.bool true, .bool t, .string z, .string y] 44)).cell? ⟨w.heap.size + 1, 1, none⟩ = some (.slice q m cq) := N.b 1
  have Nb2 : (w1.alloc (Obj.cells #[.bool true, .bool t, .string z, .string y] 44)).cell? ⟨w.heap.size + 1, 2, none⟩ = some (.string bu) := N.b 2
  have Nb3 : (w1.alloc (Obj.cells #[.bool true, .bool t, .string z, .string y] 44)).cell? ⟨w.heap.size + 1, 3, none⟩ = some (.slice s k cs) := N.b 3
  have Nb4 : (w1.alloc (Obj.cells #[.bool true, .bool t, .string z, .string y] 44)).cell? ⟨w.heap.size + 1, 4, none⟩ = some (.int .i64 0) := N.b 4
  have Nb5 : (w1.alloc (Obj.cells #[.bool true, .bool t, .string z, .string y] 44)).cell? ⟨w.heap.size + 1, 5, none⟩ = some (.int .i64 at_) := N.b 5
  go_wp2_with fail
  refine (hO.out _ N.bl).mono ?_
  rintro e w2 ⟨rfl, hB2⟩
  have N2 := N.next hB2
  have hl2 := N2.l2
  have hlb2 : w.heap.size + 1 < w2.heap.size := by have := N2.l1; omega
  have hlc2 : w.heap.size < w2.heap.size := by omega
  clear hB2
  have N2a0 : w2.cell? ⟨w.heap.size, 0, none⟩ = some (.string os) := N2.a 0
  have N2a1 : w2.cell? ⟨w.heap.size, 1, none⟩ = some (.string arch) := N2.a 1
  have N2a2 : w2.cell? ⟨w.heap.size, 2, none⟩ = some (.bool cgo) := N2.a 2
  have N2a3 : w2.cell? ⟨w.heap.size, 3, none⟩ = some (.int .i64 lv) := N2.a 3
  have N2a4 : w2.cell? ⟨w.heap.size, 4, none⟩ = some (.slice p n cp) := N2.a 4
  have N2b0 : w2.cell? ⟨w.heap.size + 1, 0, none⟩ = some (.string nm) := N2.b 0
  have N2b1 : w2.cell? ⟨w.heap.size + 1, 1, none⟩ = some (.slice q m cq) := N2.b 1
  have N2b2 : w2.cell? ⟨w.heap.size + 1, 2, none⟩ = some (.string bu) := N2.b 2
  have N2b3 : w2.cell? ⟨w.heap.size + 1, 3, none⟩ = some (.slice s k cs) := N2.b 3
  have N2b4 : w2.cell? ⟨w.heap.size + 1, 4, none⟩ = some (.int .i64 0) := N2.b 4
  have N2b5 : w2.cell? ⟨w.heap.size + 1, 5, none⟩ = some (.int .i64 at_) := N2.b 5
  have N2c0 : w2.cell? ⟨w1.heap.size, 0, none⟩ = some (.bool true) := N2.c 0
  have N2c1 : w2.cell? ⟨w1.heap.size, 1, none⟩ = some (.bool t) := N2.c 1
  have N2c2 : w2.cell? ⟨w1.heap.size, 2, none⟩ = some (.string z) := N2.c 2
  have N2c3 : w2.cell? ⟨w1.heap.size, 3, none⟩ = some (.string y) := N2.c 3
  go_wp2_with fail
  refine (hR.out _ N2.bl).mono ?_
  rintro e w3 ⟨rfl, hB3⟩
  have N3 := N2.next hB3
  have hl3 := N3.l2
  have hlb3 : w.heap.size + 1 < w3.heap.size := by have := N3.l1; omega
  have hlc3 : w.heap.size < w3.heap.size := by omega
  clear hB3
  have N3a0 : w3.cell? ⟨w.heap.size, 0, none⟩ = some (.string os) := N3.a 0
  have N3a1 : w3.cell? ⟨w.heap.size, 1, none⟩ = some (.string arch) := N3.a 1
  have N3a2 : w3.cell? ⟨w.heap.size, 2, none⟩ = some (.bool cgo) := N3.a 2
  have N3a3 : w3.cell? ⟨w.heap.size, 3, none⟩ = some (.int .i64 lv) := N3.a 3
  have N3a4 : w3.cell? ⟨w.heap.size, 4, none⟩ = some (.slice p n cp) := N3.a 4
  have N3b0 : w3.cell? ⟨w.heap.size + 1, 0, none⟩ = some (.string nm) := N3.b 0
  have N3b1 : w3.cell? ⟨w.heap.size + 1, 1, none⟩ = some (.slice q m cq) := N3.b 1
  have N3b2 : w3.cell? ⟨w.heap.size + 1, 2, none⟩ = some (.string bu) := N3.b 2
  have N3b3 : w3.cell? ⟨w.heap.size + 1, 3, none⟩ = some (.slice s k cs) := N3.b 3
  have N3b4 : w3.cell? ⟨w.heap.size + 1, 4, none⟩ = some (.int .i64 0) := N3.b 4
  have N3b5 : w3.cell? ⟨w.heap.size + 1, 5, none⟩ = some (.int .i64 at_) := N3.b 5
  have N3c0 : w3.cell? ⟨w1.heap.size, 0, none⟩ = some (.bool true) := N3.c 0
  have N3c1 : w3.cell? ⟨w1.heap.size, 1, none⟩ = some (.bool t) := N3.c 1
  have N3c2 : w3.cell? ⟨w1.heap.size, 2, none⟩ = some (.string z) := N3.c 2
  have N3c3 : w3.cell? ⟨w1.heap.size, 3, none⟩ = some (.string y) := N3.c 3
  go_wp2_with fail
  refine (HH.out _ N3.bl).mono ?_
  rintro e w4 ⟨rfl, hB4⟩
  have N4 := N3.next hB4
  have hl4 := N4.l2
  have hlb4 : w.heap.size + 1 < w4.heap.size := by have := N4.l1; omega
  have hlc4 : w.heap.size < w4.heap.size := by omega
  clear hB4
  have N4a0 : w4.cell? ⟨w.heap.size, 0, none⟩ = some (.string os) := N4.a 0
  have N4a1 : w4.cell? ⟨w.heap.size, 1, none⟩ = some (.string arch) := N4.a 1
  have N4a2 : w4.cell? ⟨w.heap.size, 2, none⟩ = some (.bool cgo) := N4.a 2
  have N4a3 : w4.cell? ⟨w.heap.size, 3, none⟩ = some (.int .i64 lv) := N4.a 3
  have N4a4 : w4.cell? ⟨w.heap.size, 4, none⟩ = some (.slice p n cp) := N4.a 4
  have N4b0 : w4.cell? ⟨w.heap.size + 1, 0, none⟩ = some (.string nm) := N4.b 0
  have N4b1 : w4.cell? ⟨w.heap.size + 1, 1, none⟩ = some (.slice q m cq) := N4.b 1
  have N4b2 : w4.cell? ⟨w.heap.size + 1, 2, none⟩ = some (.string bu) := N4.b 2
  have N4b3 : w4.cell? ⟨w.heap.size + 1, 3, none⟩ = some (.slice s k cs) := N4.b 3
  have N4b4 : w4.cell? ⟨w.heap.size + 1, 4, none⟩ = some (.int .i64 0) := N4.b 4
  have N4b5 : w4.cell? ⟨w.heap.size + 1, 5, none⟩ = some (.int .i64 at_) := N4.b 5
  have N4c0 : w4.cell? ⟨w1.heap.size, 0, none⟩ = some (.bool true) := N4.c 0
  have N4c1 : w4.cell? ⟨w1.heap.size, 1, none⟩ = some (.bool t) := N4.c 1
  have N4c2 : w4.cell? ⟨w1.heap.size, 2, none⟩ = some (.string z) := N4.c 2
  have N4c3 : w4.cell? ⟨w1.heap.size, 3, none⟩ = some (.string y) := N4.c 3
  go_wp2_with fail
  refine (HF.out _).mono ?_
  rintro e w5 ⟨rfl, hB5⟩
  have N5 := N4.next hB5
  have hl5 := N5.l2
  have hlb5 : w.heap.size + 1 < w5.heap.size := by have := N5.l1; omega
  have hlc5 : w.heap.size < w5.heap.size := by omega
  clear hB5
  have N5a0 : w5.cell? ⟨w.heap.size, 0, none⟩ = some (.string os) := N5.a 0
  have N5a1 : w5.cell? ⟨w.heap.size, 1, none⟩ = some (.string arch) := N5.a 1
  have N5a2 : w5.cell? ⟨w.heap.size, 2, none⟩ = some (.bool cgo) := N5.a 2
  have N5a3 : w5.cell? ⟨w.heap.size, 3, none⟩ = some (.int .i64 lv) := N5.a 3
  have N5a4 : w5.cell? ⟨w.heap.size, 4, none⟩ = some (.slice p n cp) := N5.a 4
  have N5b0 : w5.cell? ⟨w.heap.size + 1, 0, none⟩ = some (.string nm) := N5.b 0
  have N5b1 : w5.cell? ⟨w.heap.size + 1, 1, none⟩ = some (.slice q m cq) := N5.b 1
  have N5b2 : w5.cell? ⟨w.heap.size + 1, 2, none⟩ = some (.string bu) := N5.b 2
  have N5b3 : w5.cell? ⟨w.heap.size + 1, 3, none⟩ = some (.slice s k cs) := N5.b 3
  have N5b4 : w5.cell? ⟨w.heap.size + 1, 4, none⟩ = some (.int .i64 0) := N5.b 4
  have N5b5 : w5.cell? ⟨w.heap.size + 1, 5, none⟩ = some (.int .i64 at_) := N5.b 5
  have N5c0 : w5.cell? ⟨w1.heap.size, 0, none⟩ = some (.bool true) := N5.c 0
  have N5c1 : w5.cell? ⟨w1.heap.size, 1, none⟩ = some (.bool t) := N5.c 1
  have N5c2 : w5.cell? ⟨w1.heap.size, 2, none⟩ = some (.string z) := N5.c 2
  have N5c3 : w5.cell? ⟨w1.heap.size, 3, none⟩ = some (.string y) := N5.c 3
  go_wp2_with fail
  go_ret2
  exact ⟨rfl, N5.bl⟩
set_option maxRecDepth 100000 in
set_option maxHeartbeats 2000000 in
theorem in_YY_f (os arch nm bu z y file : ByteArray) (cgo t x : Bool) (lv er at_ : Int) (p q s : Option Addr) (n m k cp cq cs : Nat) (w : World) (HO : Hid (∀ w1, Below w.heap.size w w1 → Calls Tryz.prog 17 #[.string file] w1 fun e w' => e = .returned (.agg #[.bool true, .bool t, .string z, .string y]) ∧ Below w1.heap.size w1 w')) (hO : Hid (∀ w1, Below w.heap.size w w1 → Calls Tryz.prog 8 #[.agg #[.string os, .string arch, .bool cgo, .int .i64 lv, .slice p n cp], .string z] w1 fun e w' => e = .returned (.bool true) ∧ Below w1.heap.size w1 w')) (ho : z.toList.isEmpty = false) (hR : Hid (∀ w1, Below w.heap.size w w1 → Calls Tryz.prog 8 #[.agg #[.string os, .string arch, .bool cgo, .int .i64 lv, .slice p n cp], .string y] w1 fun e w' => e = .returned (.bool true) ∧ Below w1.heap.size w1 w')) (hr : y.toList.isEmpty = false) (HH : Hid (∀ w1, Below w.heap.size w w1 → Calls Tryz.prog 19 #[.agg #[.string os, .string arch, .bool cgo, .int .i64 lv, .slice p n cp], .string bu] w1 fun e w' => e = .returned (.tuple #[.bool false, .int .i64 0]) ∧ Below w1.heap.size w1 w')) :
    Calls Tryz.prog 10 #[.agg #[.string os, .string arch, .bool cgo, .int .i64 lv, .slice p n cp], .string file, .agg #[.string nm, .slice q m cq, .string bu, .slice s k cs, .int .i64 0, .int .i64 at_]] w fun e w' => e = .returned (.tuple #[(.int .i64 0), (.int .i64 0)]) ∧ Below w.heap.size w w' := by
  have M0 := mem2_new w #[.string os, .string arch, .bool cgo, .int .i64 lv, .slice p n cp] #[.string nm, .slice q m cq, .string bu, .slice s k cs, .int .i64 0, .int .i64 at_] 24 33
  have M0b := M0.bl
  go_enter Tryz.func10, Tryz.ntmps10
  go_wp2_with fail
  refine (HO.out _ M0b).mono ?_
  rintro e w1 ⟨rfl, hB1⟩
  have M1 := M0.next hB1
  have hl1 := M1.l
  have hl0 : w.heap.size < w1.heap.size := by omega
  have M1a0 : w1.cell? ⟨w.heap.size, 0, none⟩ = some (.string os) := M1.a 0
  have M1a1 : w1.cell? ⟨w.heap.size, 1, none⟩ = some (.string arch) := M1.a 1
  have M1a2 : w1.cell? ⟨w.heap.size, 2, none⟩ = some (.bool cgo) := M1.a 2
  have M1a3 : w1.cell? ⟨w.heap.size, 3, none⟩ = some (.int .i64 lv) := M1.a 3
  have M1a4 : w1.cell? ⟨w.heap.size, 4, none⟩ = some (.slice p n cp) := M1.a 4
  have M1b0 : w1.cell? ⟨w.heap.size + 1, 0, none⟩ = some (.string nm) := M1.b 0
  have M1b1 : w1.cell? ⟨w.heap.size + 1, 1, none⟩ = some (.slice q m cq) := M1.b 1
  have M1b2 : w1.cell? ⟨w.heap.size + 1, 2, none⟩ = some (.string bu) := M1.b 2
  have M1b3 : w1.cell? ⟨w.heap.size + 1, 3, none⟩ = some (.slice s k cs) := M1.b 3
  have M1b4 : w1.cell? ⟨w.heap.size + 1, 4, none⟩ = some (.int .i64 0) := M1.b 4
  have M1b5 : w1.cell? ⟨w.heap.size + 1, 5, none⟩ = some (.int .i64 at_) := M1.b 5
  have N := M1.more #[.bool true, .bool t, .string z, .string y] 44
  clear hB1 M0 M0b
  have Na0 : (w1.alloc (Obj.cells #[.bool true, .bool t, .string z, .string y] 44)).cell? ⟨w.heap.size, 0, none⟩ = some (.string os) := N.a 0
  have Na1 : (w1.alloc (Obj.cells #[.bool true, .bool t, .string z, .string y] 44)).cell? ⟨w.heap.size, 1, none⟩ = some (.string arch) := N.a 1
  have Na2 : (w1.alloc (Obj.cells #[.bool true, .bool t, .string z, .string y] 44)).cell? ⟨w.heap.size, 2, none⟩ = some (.bool cgo) := N.a 2
  have Na3 : (w1.alloc (Obj.cells #[.bool true, .bool t, .string z, .string y] 44)).cell? ⟨w.heap.size, 3, none⟩ = some (.int .i64 lv) := N.a 3
  have Na4 : (w1.alloc (Obj.cells #[.bool true, .bool t, .string z, .string y] 44)).cell? ⟨w.heap.size, 4, none⟩ = some (.slice p n cp) := N.a 4
  have Nb0 : (w1.alloc (Obj.cells #[.bool true, .bool t, .string z, .string y] 44)).cell? ⟨w.heap.size + 1, 0, none⟩ = some (.string nm) := N.b 0
  have Nb1 : (w1.alloc (Obj.cells #[.bool true, .bool t, .string z, .string y] 44)).cell? ⟨w.heap.size + 1, 1, none⟩ = some (.slice q m cq) := N.b 1
  have Nb2 : (w1.alloc (Obj.cells #[.bool true, .bool t, .string z, .string y] 44)).cell? ⟨w.heap.size + 1, 2, none⟩ = some (.string bu) := N.b 2
  have Nb3 : (w1.alloc (Obj.cells #[.bool true, .bool t, .string z, .string y] 44)).cell? ⟨w.heap.size + 1, 3, none⟩ = some (.slice s k cs) := N.b 3
  have Nb4 : (w1.alloc (Obj.cells #[.bool true, .bool t, .string z, .string y] 44)).cell? ⟨w.heap.size + 1, 4, none⟩ = some (.int .i64 0) := N.b 4
  have Nb5 : (w1.alloc (Obj.cells #[.bool true, .bool t, .string z, .string y] 44)).cell? ⟨w.heap.size + 1, 5, none⟩ = some (.int .i64 at_) := N.b 5
  go_wp2_with fail
  refine (hO.out _ N.bl).mono ?_
  rintro e w2 ⟨rfl, hB2⟩
  have N2 := N.next hB2
  have hl2 := N2.l2
  have hlb2 : w.heap.size + 1 < w2.heap.size := by have := N2.l1; omega
  have hlc2 : w.heap.size < w2.heap.size := by omega
  clear hB2
  have N2a0 : w2.cell? ⟨w.heap.size, 0, none⟩ = some (.string os) := N2.a 0
  have N2a1 : w2.cell? ⟨w.heap.size, 1, none⟩ = some (.string arch) := N2.a 1
  have N2a2 : w2.cell? ⟨w.heap.size, 2, none⟩ = some (.bool cgo) := N2.a 2
  have N2a3 : w2.cell? ⟨w.heap.size, 3, none⟩ = some (.int .i64 lv) := N2.a 3
  have N2a4 : w2.cell? ⟨w.heap.size, 4, none⟩ = some (.slice p n cp) := N2.a 4
  have N2b0 : w2.cell? ⟨w.heap.size + 1, 0, none⟩ = some (.string nm) := N2.b 0
  have N2b1 : w2.cell? ⟨w.heap.size + 1, 1, none⟩ = some (.slice q m cq) := N2.b 1
  have N2b2 : w2.cell? ⟨w.heap.size + 1, 2, none⟩ = some (.string bu) := N2.b 2
  have N2b3 : w2.cell? ⟨w.heap.size + 1, 3, none⟩ = some (.slice s k cs) := N2.b 3
  have N2b4 : w2.cell? ⟨w.heap.size + 1, 4, none⟩ = some (.int .i64 0) := N2.b 4
  have N2b5 : w2.cell? ⟨w.heap.size + 1, 5, none⟩ = some (.int .i64 at_) := N2.b 5
  have N2c0 : w2.cell? ⟨w1.heap.size, 0, none⟩ = some (.bool true) := N2.c 0
  have N2c1 : w2.cell? ⟨w1.heap.size, 1, none⟩ = some (.bool t) := N2.c 1
  have N2c2 : w2.cell? ⟨w1.heap.size, 2, none⟩ = some (.string z) := N2.c 2
  have N2c3 : w2.cell? ⟨w1.heap.size, 3, none⟩ = some (.string y) := N2.c 3
  go_wp2_with fail
  refine (hR.out _ N2.bl).mono ?_
  rintro e w3 ⟨rfl, hB3⟩
  have N3 := N2.next hB3
  have hl3 := N3.l2
  have hlb3 : w.heap.size + 1 < w3.heap.size := by have := N3.l1; omega
  have hlc3 : w.heap.size < w3.heap.size := by omega
  clear hB3
  have N3a0 : w3.cell? ⟨w.heap.size, 0, none⟩ = some (.string os) := N3.a 0
  have N3a1 : w3.cell? ⟨w.heap.size, 1, none⟩ = some (.string arch) := N3.a 1
  have N3a2 : w3.cell? ⟨w.heap.size, 2, none⟩ = some (.bool cgo) := N3.a 2
  have N3a3 : w3.cell? ⟨w.heap.size, 3, none⟩ = some (.int .i64 lv) := N3.a 3
  have N3a4 : w3.cell? ⟨w.heap.size, 4, none⟩ = some (.slice p n cp) := N3.a 4
  have N3b0 : w3.cell? ⟨w.heap.size + 1, 0, none⟩ = some (.string nm) := N3.b 0
  have N3b1 : w3.cell? ⟨w.heap.size + 1, 1, none⟩ = some (.slice q m cq) := N3.b 1
  have N3b2 : w3.cell? ⟨w.heap.size + 1, 2, none⟩ = some (.string bu) := N3.b 2
  have N3b3 : w3.cell? ⟨w.heap.size + 1, 3, none⟩ = some (.slice s k cs) := N3.b 3
  have N3b4 : w3.cell? ⟨w.heap.size + 1, 4, none⟩ = some (.int .i64 0) := N3.b 4
  have N3b5 : w3.cell? ⟨w.heap.size + 1, 5, none⟩ = some (.int .i64 at_) := N3.b 5
  have N3c0 : w3.cell? ⟨w1.heap.size, 0, none⟩ = some (.bool true) := N3.c 0
  have N3c1 : w3.cell? ⟨w1.heap.size, 1, none⟩ = some (.bool t) := N3.c 1
  have N3c2 : w3.cell? ⟨w1.heap.size, 2, none⟩ = some (.string z) := N3.c 2
  have N3c3 : w3.cell? ⟨w1.heap.size, 3, none⟩ = some (.string y) := N3.c 3
  go_wp2_with fail
  refine (HH.out _ N3.bl).mono ?_
  rintro e w4 ⟨rfl, hB4⟩
  have N4 := N3.next hB4
  have hl4 := N4.l2
  have hlb4 : w.heap.size + 1 < w4.heap.size := by have := N4.l1; omega
  have hlc4 : w.heap.size < w4.heap.size := by omega
  clear hB4
  have N4a0 : w4.cell? ⟨w.heap.size, 0, none⟩ = some (.string os) := N4.a 0
  have N4a1 : w4.cell? ⟨w.heap.size, 1, none⟩ = some (.string arch) := N4.a 1
  have N4a2 : w4.cell? ⟨w.heap.size, 2, none⟩ = some (.bool cgo) := N4.a 2
  have N4a3 : w4.cell? ⟨w.heap.size, 3, none⟩ = some (.int .i64 lv) := N4.a 3
  have N4a4 : w4.cell? ⟨w.heap.size, 4, none⟩ = some (.slice p n cp) := N4.a 4
  have N4b0 : w4.cell? ⟨w.heap.size + 1, 0, none⟩ = some (.string nm) := N4.b 0
  have N4b1 : w4.cell? ⟨w.heap.size + 1, 1, none⟩ = some (.slice q m cq) := N4.b 1
  have N4b2 : w4.cell? ⟨w.heap.size + 1, 2, none⟩ = some (.string bu) := N4.b 2
  have N4b3 : w4.cell? ⟨w.heap.size + 1, 3, none⟩ = some (.slice s k cs) := N4.b 3
  have N4b4 : w4.cell? ⟨w.heap.size + 1, 4, none⟩ = some (.int .i64 0) := N4.b 4
  have N4b5 : w4.cell? ⟨w.heap.size + 1, 5, none⟩ = some (.int .i64 at_) := N4.b 5
  have N4c0 : w4.cell? ⟨w1.heap.size, 0, none⟩ = some (.bool true) := N4.c 0
  have N4c1 : w4.cell? ⟨w1.heap.size, 1, none⟩ = some (.bool t) := N4.c 1
  have N4c2 : w4.cell? ⟨w1.heap.size, 2, none⟩ = some (.string z) := N4.c 2
  have N4c3 : w4.cell? ⟨w1.heap.size, 3, none⟩ = some (.string y) := N4.c 3
  go_wp2_with fail
  go_ret2
  exact ⟨rfl, N4.bl⟩
set_option maxRecDepth 100000 in
set_option maxHeartbeats 2000000 in
theorem in_YY_g (os arch nm bu z y file : ByteArray) (t x : Bool) (lv er at_ : Int) (p q s : Option Addr) (n m k cp cq cs : Nat) (w : World) (HO : Hid (∀ w1, Below w.heap.size w w1 → Calls Tryz.prog 17 #[.string file] w1 fun e w' => e = .returned (.agg #[.bool true, .bool t, .string z, .string y]) ∧ Below w1.heap.size w1 w')) (hO : Hid (∀ w1, Below w.heap.size w w1 → Calls Tryz.prog 8 #[.agg #[.string os, .string arch, .bool true, .int .i64 lv, .slice p n cp], .string z] w1 fun e w' => e = .returned (.bool true) ∧ Below w1.heap.size w1 w')) (ho : z.toList.isEmpty = false) (hR : Hid (∀ w1, Below w.heap.size w w1 → Calls Tryz.prog 8 #[.agg #[.string os, .string arch, .bool true, .int .i64 lv, .slice p n cp], .string y] w1 fun e w' => e = .returned (.bool true) ∧ Below w1.heap.size w1 w')) (hr : y.toList.isEmpty = false) (HH : Hid (∀ w1, Below w.heap.size w w1 → Calls Tryz.prog 19 #[.agg #[.string os, .string arch, .bool true, .int .i64 lv, .slice p n cp], .string bu] w1 fun e w' => e = .returned (.tuple #[.bool true, .int .i64 0]) ∧ Below w1.heap.size w1 w')) (vn : Int) (HV : Hid (∀ w1, Calls Tryz.prog 22 #[.agg #[.bool true, .bool t, .string z, .string y], .string nm] w1 fun e w' => e = .returned (.int .i64 vn) ∧ Below w1.heap.size w1 w')) :
    Calls Tryz.prog 10 #[.agg #[.string os, .string arch, .bool true, .int .i64 lv, .slice p n cp], .string file, .agg #[.string nm, .slice q m cq, .string bu, .slice s k cs, .int .i64 0, .int .i64 at_]] w fun e w' => e = .returned (.tuple #[(.int .i64 vn), (.int .i64 0)]) ∧ Below w.heap.size w w' := by
  have M0 := mem2_new w #[.string os, .string arch, .bool true, .int .i64 lv, .slice p n cp] #[.string nm, .slice q m cq, .string bu, .slice s k cs, .int .i64 0, .int .i64 at_] 24 33
  have M0b := M0.bl
  go_enter Tryz.func10, Tryz.ntmps10
  go_wp2_with fail
  refine (HO.out _ M0b).mono ?_
  rintro e w1 ⟨rfl, hB1⟩
  have M1 := M0.next hB1
  have hl1 := M1.l
  have hl0 : w.heap.size < w1.heap.size := by omega
  have M1a0 : w1.cell? ⟨w.heap.size, 0, none⟩ = some (.string os) := M1.a 0
  have M1a1 : w1.cell? ⟨w.heap.size, 1, none⟩ = some (.string arch) := M1.a 1
  have M1a2 : w1.cell? ⟨w.heap.size, 2, none⟩ = some (.bool true) := M1.a 2
  have M1a3 : w1.cell? ⟨w.heap.size, 3, none⟩ = some (.int .i64 lv) := M1.a 3
  have M1a4 : w1.cell? ⟨w.heap.size, 4, none⟩ = some (.slice p n cp) := M1.a 4
  have M1b0 : w1.cell? ⟨w.heap.size + 1, 0, none⟩ = some (.string nm) := M1.b 0
  have M1b1 : w1.cell? ⟨w.heap.size + 1, 1, none⟩ = some (.slice q m cq) := M1.b 1
  have M1b2 : w1.cell? ⟨w.heap.size + 1, 2, none⟩ = some (.string bu) := M1.b 2
  have M1b3 : w1.cell? ⟨w.heap.size + 1, 3, none⟩ = some (.slice s k cs) := M1.b 3
  have M1b4 : w1.cell? ⟨w.heap.size + 1, 4, none⟩ = some (.int .i64 0) := M1.b 4
  have M1b5 : w1.cell? ⟨w.heap.size + 1, 5, none⟩ = some (.int .i64 at_) := M1.b 5
  have N := M1.more #[.bool true, .bool t, .string z, .string y] 44
  clear hB1 M0 M0b
  have Na0 : (w1.alloc (Obj.cells #[.bool true, .bool t, .string z, .string y] 44)).cell? ⟨w.heap.size, 0, none⟩ = some (.string os) := N.a 0
  have Na1 : (w1.alloc (Obj.cells #[.bool true, .bool t, .string z, .string y] 44)).cell? ⟨w.heap.size, 1, none⟩ = some (.string arch) := N.a 1
  have Na2 : (w1.alloc (Obj.cells #[.bool true, .bool t, .string z, .string y] 44)).cell? ⟨w.heap.size, 2, none⟩ = some (.bool true) := N.a 2
  have Na3 : (w1.alloc (Obj.cells #[.bool true, .bool t, .string z, .string y] 44)).cell? ⟨w.heap.size, 3, none⟩ = some (.int .i64 lv) := N.a 3
  have Na4 : (w1.alloc (Obj.cells #[.bool true, .bool t, .string z, .string y] 44)).cell? ⟨w.heap.size, 4, none⟩ = some (.slice p n cp) := N.a 4
  have Nb0 : (w1.alloc (Obj.cells #[.bool true, .bool t, .string z, .string y] 44)).cell? ⟨w.heap.size + 1, 0, none⟩ = some (.string nm) := N.b 0
  have Nb1 : (w1.alloc (Obj.cells #[.bool true, .bool t, .string z, .string y] 44)).cell? ⟨w.heap.size + 1, 1, none⟩ = some (.slice q m cq) := N.b 1
  have Nb2 : (w1.alloc (Obj.cells #[.bool true, .bool t, .string z, .string y] 44)).cell? ⟨w.heap.size + 1, 2, none⟩ = some (.string bu) := N.b 2
  have Nb3 : (w1.alloc (Obj.cells #[.bool true, .bool t, .string z, .string y] 44)).cell? ⟨w.heap.size + 1, 3, none⟩ = some (.slice s k cs) := N.b 3
  have Nb4 : (w1.alloc (Obj.cells #[.bool true, .bool t, .string z, .string y] 44)).cell? ⟨w.heap.size + 1, 4, none⟩ = some (.int .i64 0) := N.b 4
  have Nb5 : (w1.alloc (Obj.cells #[.bool true, .bool t, .string z, .string y] 44)).cell? ⟨w.heap.size + 1, 5, none⟩ = some (.int .i64 at_) := N.b 5
  go_wp2_with fail
  refine (hO.out _ N.bl).mono ?_
  rintro e w2 ⟨rfl, hB2⟩
  have N2 := N.next hB2
  have hl2 := N2.l2
  have hlb2 : w.heap.size + 1 < w2.heap.size := by have := N2.l1; omega
  have hlc2 : w.heap.size < w2.heap.size := by omega
  clear hB2
  have N2a0 : w2.cell? ⟨w.heap.size, 0, none⟩ = some (.string os) := N2.a 0
  have N2a1 : w2.cell? ⟨w.heap.size, 1, none⟩ = some (.string arch) := N2.a 1
  have N2a2 : w2.cell? ⟨w.heap.size, 2, none⟩ = some (.bool true) := N2.a 2
  have N2a3 : w2.cell? ⟨w.heap.size, 3, none⟩ = some (.int .i64 lv) := N2.a 3
  have N2a4 : w2.cell? ⟨w.heap.size, 4, none⟩ = some (.slice p n cp) := N2.a 4
  have N2b0 : w2.cell? ⟨w.heap.size + 1, 0, none⟩ = some (.string nm) := N2.b 0
  have N2b1 : w2.cell? ⟨w.heap.size + 1, 1, none⟩ = some (.slice q m cq) := N2.b 1
  have N2b2 : w2.cell? ⟨w.heap.size + 1, 2, none⟩ = some (.string bu) := N2.b 2
  have N2b3 : w2.cell? ⟨w.heap.size + 1, 3, none⟩ = some (.slice s k cs) := N2.b 3
  have N2b4 : w2.cell? ⟨w.heap.size + 1, 4, none⟩ = some (.int .i64 0) := N2.b 4
  have N2b5 : w2.cell? ⟨w.heap.size + 1, 5, none⟩ = some (.int .i64 at_) := N2.b 5
  have N2c0 : w2.cell? ⟨w1.heap.size, 0, none⟩ = some (.bool true) := N2.c 0
  have N2c1 : w2.cell? ⟨w1.heap.size, 1, none⟩ = some (.bool t) := N2.c 1
  have N2c2 : w2.cell? ⟨w1.heap.size, 2, none⟩ = some (.string z) := N2.c 2
  have N2c3 : w2.cell? ⟨w1.heap.size, 3, none⟩ = some (.string y) := N2.c 3
  go_wp2_with fail
  refine (hR.out _ N2.bl).mono ?_
  rintro e w3 ⟨rfl, hB3⟩
  have N3 := N2.next hB3
  have hl3 := N3.l2
  have hlb3 : w.heap.size + 1 < w3.heap.size := by have := N3.l1; omega
  have hlc3 : w.heap.size < w3.heap.size := by omega
  clear hB3
  have N3a0 : w3.cell? ⟨w.heap.size, 0, none⟩ = some (.string os) := N3.a 0
  have N3a1 : w3.cell? ⟨w.heap.size, 1, none⟩ = some (.string arch) := N3.a 1
  have N3a2 : w3.cell? ⟨w.heap.size, 2, none⟩ = some (.bool true) := N3.a 2
  have N3a3 : w3.cell? ⟨w.heap.size, 3, none⟩ = some (.int .i64 lv) := N3.a 3
  have N3a4 : w3.cell? ⟨w.heap.size, 4, none⟩ = some (.slice p n cp) := N3.a 4
  have N3b0 : w3.cell? ⟨w.heap.size + 1, 0, none⟩ = some (.string nm) := N3.b 0
  have N3b1 : w3.cell? ⟨w.heap.size + 1, 1, none⟩ = some (.slice q m cq) := N3.b 1
  have N3b2 : w3.cell? ⟨w.heap.size + 1, 2, none⟩ = some (.string bu) := N3.b 2
  have N3b3 : w3.cell? ⟨w.heap.size + 1, 3, none⟩ = some (.slice s k cs) := N3.b 3
  have N3b4 : w3.cell? ⟨w.heap.size + 1, 4, none⟩ = some (.int .i64 0) := N3.b 4
  have N3b5 : w3.cell? ⟨w.heap.size + 1, 5, none⟩ = some (.int .i64 at_) := N3.b 5
  have N3c0 : w3.cell? ⟨w1.heap.size, 0, none⟩ = some (.bool true) := N3.c 0
  have N3c1 : w3.cell? ⟨w1.heap.size, 1, none⟩ = some (.bool t) := N3.c 1
  have N3c2 : w3.cell? ⟨w1.heap.size, 2, none⟩ = some (.string z) := N3.c 2
  have N3c3 : w3.cell? ⟨w1.heap.size, 3, none⟩ = some (.string y) := N3.c 3
  go_wp2_with fail
  refine (HH.out _ N3.bl).mono ?_
  rintro e w4 ⟨rfl, hB4⟩
  have N4 := N3.next hB4
  have hl4 := N4.l2
  have hlb4 : w.heap.size + 1 < w4.heap.size := by have := N4.l1; omega
  have hlc4 : w.heap.size < w4.heap.size := by omega
  clear hB4
  have N4a0 : w4.cell? ⟨w.heap.size, 0, none⟩ = some (.string os) := N4.a 0
  have N4a1 : w4.cell? ⟨w.heap.size, 1, none⟩ = some (.string arch) := N4.a 1
  have N4a2 : w4.cell? ⟨w.heap.size, 2, none⟩ = some (.bool true) := N4.a 2
  have N4a3 : w4.cell? ⟨w.heap.size, 3, none⟩ = some (.int .i64 lv) := N4.a 3
  have N4a4 : w4.cell? ⟨w.heap.size, 4, none⟩ = some (.slice p n cp) := N4.a 4
  have N4b0 : w4.cell? ⟨w.heap.size + 1, 0, none⟩ = some (.string nm) := N4.b 0
  have N4b1 : w4.cell? ⟨w.heap.size + 1, 1, none⟩ = some (.slice q m cq) := N4.b 1
  have N4b2 : w4.cell? ⟨w.heap.size + 1, 2, none⟩ = some (.string bu) := N4.b 2
  have N4b3 : w4.cell? ⟨w.heap.size + 1, 3, none⟩ = some (.slice s k cs) := N4.b 3
  have N4b4 : w4.cell? ⟨w.heap.size + 1, 4, none⟩ = some (.int .i64 0) := N4.b 4
  have N4b5 : w4.cell? ⟨w.heap.size + 1, 5, none⟩ = some (.int .i64 at_) := N4.b 5
  have N4c0 : w4.cell? ⟨w1.heap.size, 0, none⟩ = some (.bool true) := N4.c 0
  have N4c1 : w4.cell? ⟨w1.heap.size, 1, none⟩ = some (.bool t) := N4.c 1
  have N4c2 : w4.cell? ⟨w1.heap.size, 2, none⟩ = some (.string z) := N4.c 2
  have N4c3 : w4.cell? ⟨w1.heap.size, 3, none⟩ = some (.string y) := N4.c 3
  go_wp2_with fail
  refine (HV.out _).mono ?_
  rintro e w5 ⟨rfl, hB5⟩
  have N5 := N4.next hB5
  have hl5 := N5.l2
  have hlb5 : w.heap.size + 1 < w5.heap.size := by have := N5.l1; omega
  have hlc5 : w.heap.size < w5.heap.size := by omega
  clear hB5
  have N5a0 : w5.cell? ⟨w.heap.size, 0, none⟩ = some (.string os) := N5.a 0
  have N5a1 : w5.cell? ⟨w.heap.size, 1, none⟩ = some (.string arch) := N5.a 1
  have N5a2 : w5.cell? ⟨w.heap.size, 2, none⟩ = some (.bool true) := N5.a 2
  have N5a3 : w5.cell? ⟨w.heap.size, 3, none⟩ = some (.int .i64 lv) := N5.a 3
  have N5a4 : w5.cell? ⟨w.heap.size, 4, none⟩ = some (.slice p n cp) := N5.a 4
  have N5b0 : w5.cell? ⟨w.heap.size + 1, 0, none⟩ = some (.string nm) := N5.b 0
  have N5b1 : w5.cell? ⟨w.heap.size + 1, 1, none⟩ = some (.slice q m cq) := N5.b 1
  have N5b2 : w5.cell? ⟨w.heap.size + 1, 2, none⟩ = some (.string bu) := N5.b 2
  have N5b3 : w5.cell? ⟨w.heap.size + 1, 3, none⟩ = some (.slice s k cs) := N5.b 3
  have N5b4 : w5.cell? ⟨w.heap.size + 1, 4, none⟩ = some (.int .i64 0) := N5.b 4
  have N5b5 : w5.cell? ⟨w.heap.size + 1, 5, none⟩ = some (.int .i64 at_) := N5.b 5
  have N5c0 : w5.cell? ⟨w1.heap.size, 0, none⟩ = some (.bool true) := N5.c 0
  have N5c1 : w5.cell? ⟨w1.heap.size, 1, none⟩ = some (.bool t) := N5.c 1
  have N5c2 : w5.cell? ⟨w1.heap.size, 2, none⟩ = some (.string z) := N5.c 2
  have N5c3 : w5.cell? ⟨w1.heap.size, 3, none⟩ = some (.string y) := N5.c 3
  go_wp2_with fail
  go_ret2
  exact ⟨rfl, N5.bl⟩
set_option maxRecDepth 100000 in
set_option maxHeartbeats 2000000 in
theorem in_YY_c (os arch nm bu z y file : ByteArray) (t x : Bool) (lv er at_ : Int) (p q s : Option Addr) (n m k cp cq cs : Nat) (w : World) (HO : Hid (∀ w1, Below w.heap.size w w1 → Calls Tryz.prog 17 #[.string file] w1 fun e w' => e = .returned (.agg #[.bool true, .bool t, .string z, .string y]) ∧ Below w1.heap.size w1 w')) (hO : Hid (∀ w1, Below w.heap.size w w1 → Calls Tryz.prog 8 #[.agg #[.string os, .string arch, .bool false, .int .i64 lv, .slice p n cp], .string z] w1 fun e w' => e = .returned (.bool true) ∧ Below w1.heap.size w1 w')) (ho : z.toList.isEmpty = false) (hR : Hid (∀ w1, Below w.heap.size w w1 → Calls Tryz.prog 8 #[.agg #[.string os, .string arch, .bool false, .int .i64 lv, .slice p n cp], .string y] w1 fun e w' => e = .returned (.bool true) ∧ Below w1.heap.size w1 w')) (hr : y.toList.isEmpty = false) (HH : Hid (∀ w1, Below w.heap.size w w1 → Calls Tryz.prog 19 #[.agg #[.string os, .string arch, .bool false, .int .i64 lv, .slice p n cp], .string bu] w1 fun e w' => e = .returned (.tuple #[.bool true, .int .i64 0]) ∧ Below w1.heap.size w1 w')) (HC : Hid (∀ w1, Below w.heap.size w w1 → Calls Tryz.prog 20 #[.slice q m cq, .func (.func 21) #[] #[]] w1 fun e w' => e = .returned (.bool true) ∧ Below w1.heap.size w1 w')) :
    Calls Tryz.prog 10 #[.agg #[.string os, .string arch, .bool false, .int .i64 lv, .slice p n cp], .string file, .agg #[.string nm, .slice q m cq, .string bu, .slice s k cs, .int .i64 0, .int .i64 at_]] w fun e w' => e = .returned (.tuple #[(.int .i64 0), (.int .i64 0)]) ∧ Below w.heap.size w w' := by
  have M0 := mem2_new w #[.string os, .string arch, .bool false, .int .i64 lv, .slice p n cp] #[.string nm, .slice q m cq, .string bu, .slice s k cs, .int .i64 0, .int .i64 at_] 24 33
  have M0b := M0.bl
  go_enter Tryz.func10, Tryz.ntmps10
  go_wp2_with fail
  refine (HO.out _ M0b).mono ?_
  rintro e w1 ⟨rfl, hB1⟩
  have M1 := M0.next hB1
  have hl1 := M1.l
  have hl0 : w.heap.size < w1.heap.size := by omega
  have M1a0 : w1.cell? ⟨w.heap.size, 0, none⟩ = some (.string os) := M1.a 0
  have M1a1 : w1.cell? ⟨w.heap.size, 1, none⟩ = some (.string arch) := M1.a 1
  have M1a2 : w1.cell? ⟨w.heap.size, 2, none⟩ = some (.bool false) := M1.a 2
  have M1a3 : w1.cell? ⟨w.heap.size, 3, none⟩ = some (.int .i64 lv) := M1.a 3
  have M1a4 : w1.cell? ⟨w.heap.size, 4, none⟩ = some (.slice p n cp) := M1.a 4
  have M1b0 : w1.cell? ⟨w.heap.size + 1, 0, none⟩ = some (.string nm) := M1.b 0
  have M1b1 : w1.cell? ⟨w.heap.size + 1, 1, none⟩ = some (.slice q m cq) := M1.b 1
  have M1b2 : w1.cell? ⟨w.heap.size + 1, 2, none⟩ = some (.string bu) := M1.b 2
  have M1b3 : w1.cell? ⟨w.heap.size + 1, 3, none⟩ = some (.slice s k cs) := M1.b 3
  have M1b4 : w1.cell? ⟨w.heap.size + 1, 4, none⟩ = some (.int .i64 0) := M1.b 4
  have M1b5 : w1.cell? ⟨w.heap.size + 1, 5, none⟩ = some (.int .i64 at_) := M1.b 5
  have N := M1.more #[.bool true, .bool t, .string z, .string y] 44
  clear hB1 M0 M0b
  have Na0 : (w1.alloc (Obj.cells #[.bool true, .bool t, .string z, .string y] 44)).cell? ⟨w.heap.size, 0, none⟩ = some (.string os) := N.a 0
  have Na1 : (w1.alloc (Obj.cells #[.bool true, .bool t, .string z, .string y] 44)).cell? ⟨w.heap.size, 1, none⟩ = some (.string arch) := N.a 1
  have Na2 : (w1.alloc (Obj.cells #[.bool true, .bool t, .string z, .string y] 44)).cell? ⟨w.heap.size, 2, none⟩ = some (.bool false) := N.a 2
  have Na3 : (w1.alloc (Obj.cells #[.bool true, .bool t, .string z, .string y] 44)).cell? ⟨w.heap.size, 3, none⟩ = some (.int .i64 lv) := N.a 3
  have Na4 : (w1.alloc (Obj.cells #[.bool true, .bool t, .string z, .string y] 44)).cell? ⟨w.heap.size, 4, none⟩ = some (.slice p n cp) := N.a 4
  have Nb0 : (w1.alloc (Obj.cells #[.bool true, .bool t, .string z, .string y] 44)).cell? ⟨w.heap.size + 1, 0, none⟩ = some (.string nm) := N.b 0
  have Nb1 : (w1.alloc (Obj.cells #[.bool true, .bool t, .string z, .string y] 44)).cell? ⟨w.heap.size + 1, 1, none⟩ = some (.slice q m cq) := N.b 1
  have Nb2 : (w1.alloc (Obj.cells #[.bool true, .bool t, .string z, .string y] 44)).cell? ⟨w.heap.size + 1, 2, none⟩ = some (.string bu) := N.b 2
  have Nb3 : (w1.alloc (Obj.cells #[.bool true, .bool t, .string z, .string y] 44)).cell? ⟨w.heap.size + 1, 3, none⟩ = some (.slice s k cs) := N.b 3
  have Nb4 : (w1.alloc (Obj.cells #[.bool true, .bool t, .string z, .string y] 44)).cell? ⟨w.heap.size + 1, 4, none⟩ = some (.int .i64 0) := N.b 4
  have Nb5 : (w1.alloc (Obj.cells #[.bool true, .bool t, .string z, .string y] 44)).cell? ⟨w.heap.size + 1, 5, none⟩ = some (.int .i64 at_) := N.b 5
  go_wp2_with fail
  refine (hO.out _ N.bl).mono ?_
  rintro e w2 ⟨rfl, hB2⟩
  have N2 := N.next hB2
  have hl2 := N2.l2
  have hlb2 : w.heap.size + 1 < w2.heap.size := by have := N2.l1; omega
  have hlc2 : w.heap.size < w2.heap.size := by omega
  clear hB2
  have N2a0 : w2.cell? ⟨w.heap.size, 0, none⟩ = some (.string os) := N2.a 0
  have N2a1 : w2.cell? ⟨w.heap.size, 1, none⟩ = some (.string arch) := N2.a 1
  have N2a2 : w2.cell? ⟨w.heap.size, 2, none⟩ = some (.bool false) := N2.a 2
  have N2a3 : w2.cell? ⟨w.heap.size, 3, none⟩ = some (.int .i64 lv) := N2.a 3
  have N2a4 : w2.cell? ⟨w.heap.size, 4, none⟩ = some (.slice p n cp) := N2.a 4
  have N2b0 : w2.cell? ⟨w.heap.size + 1, 0, none⟩ = some (.string nm) := N2.b 0
  have N2b1 : w2.cell? ⟨w.heap.size + 1, 1, none⟩ = some (.slice q m cq) := N2.b 1
  have N2b2 : w2.cell? ⟨w.heap.size + 1, 2, none⟩ = some (.string bu) := N2.b 2
  have N2b3 : w2.cell? ⟨w.heap.size + 1, 3, none⟩ = some (.slice s k cs) := N2.b 3
  have N2b4 : w2.cell? ⟨w.heap.size + 1, 4, none⟩ = some (.int .i64 0) := N2.b 4
  have N2b5 : w2.cell? ⟨w.heap.size + 1, 5, none⟩ = some (.int .i64 at_) := N2.b 5
  have N2c0 : w2.cell? ⟨w1.heap.size, 0, none⟩ = some (.bool true) := N2.c 0
  have N2c1 : w2.cell? ⟨w1.heap.size, 1, none⟩ = some (.bool t) := N2.c 1
  have N2c2 : w2.cell? ⟨w1.heap.size, 2, none⟩ = some (.string z) := N2.c 2
  have N2c3 : w2.cell? ⟨w1.heap.size, 3, none⟩ = some (.string y) := N2.c 3
  go_wp2_with fail
  refine (hR.out _ N2.bl).mono ?_
  rintro e w3 ⟨rfl, hB3⟩
  have N3 := N2.next hB3
  have hl3 := N3.l2
  have hlb3 : w.heap.size + 1 < w3.heap.size := by have := N3.l1; omega
  have hlc3 : w.heap.size < w3.heap.size := by omega
  clear hB3
  have N3a0 : w3.cell? ⟨w.heap.size, 0, none⟩ = some (.string os) := N3.a 0
  have N3a1 : w3.cell? ⟨w.heap.size, 1, none⟩ = some (.string arch) := N3.a 1
  have N3a2 : w3.cell? ⟨w.heap.size, 2, none⟩ = some (.bool false) := N3.a 2
  have N3a3 : w3.cell? ⟨w.heap.size, 3, none⟩ = some (.int .i64 lv) := N3.a 3
  have N3a4 : w3.cell? ⟨w.heap.size, 4, none⟩ = some (.slice p n cp) := N3.a 4
  have N3b0 : w3.cell? ⟨w.heap.size + 1, 0, none⟩ = some (.string nm) := N3.b 0
  have N3b1 : w3.cell? ⟨w.heap.size + 1, 1, none⟩ = some (.slice q m cq) := N3.b 1
  have N3b2 : w3.cell? ⟨w.heap.size + 1, 2, none⟩ = some (.string bu) := N3.b 2
  have N3b3 : w3.cell? ⟨w.heap.size + 1, 3, none⟩ = some (.slice s k cs) := N3.b 3
  have N3b4 : w3.cell? ⟨w.heap.size + 1, 4, none⟩ = some (.int .i64 0) := N3.b 4
  have N3b5 : w3.cell? ⟨w.heap.size + 1, 5, none⟩ = some (.int .i64 at_) := N3.b 5
  have N3c0 : w3.cell? ⟨w1.heap.size, 0, none⟩ = some (.bool true) := N3.c 0
  have N3c1 : w3.cell? ⟨w1.heap.size, 1, none⟩ = some (.bool t) := N3.c 1
  have N3c2 : w3.cell? ⟨w1.heap.size, 2, none⟩ = some (.string z) := N3.c 2
  have N3c3 : w3.cell? ⟨w1.heap.size, 3, none⟩ = some (.string y) := N3.c 3
  go_wp2_with fail
  refine (HH.out _ N3.bl).mono ?_
  rintro e w4 ⟨rfl, hB4⟩
  have N4 := N3.next hB4
  have hl4 := N4.l2
  have hlb4 : w.heap.size + 1 < w4.heap.size := by have := N4.l1; omega
  have hlc4 : w.heap.size < w4.heap.size := by omega
  clear hB4
  have N4a0 : w4.cell? ⟨w.heap.size, 0, none⟩ = some (.string os) := N4.a 0
  have N4a1 : w4.cell? ⟨w.heap.size, 1, none⟩ = some (.string arch) := N4.a 1
  have N4a2 : w4.cell? ⟨w.heap.size, 2, none⟩ = some (.bool false) := N4.a 2
  have N4a3 : w4.cell? ⟨w.heap.size, 3, none⟩ = some (.int .i64 lv) := N4.a 3
  have N4a4 : w4.cell? ⟨w.heap.size, 4, none⟩ = some (.slice p n cp) := N4.a 4
  have N4b0 : w4.cell? ⟨w.heap.size + 1, 0, none⟩ = some (.string nm) := N4.b 0
  have N4b1 : w4.cell? ⟨w.heap.size + 1, 1, none⟩ = some (.slice q m cq) := N4.b 1
  have N4b2 : w4.cell? ⟨w.heap.size + 1, 2, none⟩ = some (.string bu) := N4.b 2
  have N4b3 : w4.cell? ⟨w.heap.size + 1, 3, none⟩ = some (.slice s k cs) := N4.b 3
  have N4b4 : w4.cell? ⟨w.heap.size + 1, 4, none⟩ = some (.int .i64 0) := N4.b 4
  have N4b5 : w4.cell? ⟨w.heap.size + 1, 5, none⟩ = some (.int .i64 at_) := N4.b 5
  have N4c0 : w4.cell? ⟨w1.heap.size, 0, none⟩ = some (.bool true) := N4.c 0
  have N4c1 : w4.cell? ⟨w1.heap.size, 1, none⟩ = some (.bool t) := N4.c 1
  have N4c2 : w4.cell? ⟨w1.heap.size, 2, none⟩ = some (.string z) := N4.c 2
  have N4c3 : w4.cell? ⟨w1.heap.size, 3, none⟩ = some (.string y) := N4.c 3
  go_wp2_with fail
  refine (HC.out _ N4.bl).mono ?_
  rintro e w5 ⟨rfl, hB5⟩
  have N5 := N4.next hB5
  have hl5 := N5.l2
  have hlb5 : w.heap.size + 1 < w5.heap.size := by have := N5.l1; omega
  have hlc5 : w.heap.size < w5.heap.size := by omega
  clear hB5
  have N5a0 : w5.cell? ⟨w.heap.size, 0, none⟩ = some (.string os) := N5.a 0
  have N5a1 : w5.cell? ⟨w.heap.size, 1, none⟩ = some (.string arch) := N5.a 1
  have N5a2 : w5.cell? ⟨w.heap.size, 2, none⟩ = some (.bool false) := N5.a 2
  have N5a3 : w5.cell? ⟨w.heap.size, 3, none⟩ = some (.int .i64 lv) := N5.a 3
  have N5a4 : w5.cell? ⟨w.heap.size, 4, none⟩ = some (.slice p n cp) := N5.a 4
  have N5b0 : w5.cell? ⟨w.heap.size + 1, 0, none⟩ = some (.string nm) := N5.b 0
  have N5b1 : w5.cell? ⟨w.heap.size + 1, 1, none⟩ = some (.slice q m cq) := N5.b 1
  have N5b2 : w5.cell? ⟨w.heap.size + 1, 2, none⟩ = some (.string bu) := N5.b 2
  have N5b3 : w5.cell? ⟨w.heap.size + 1, 3, none⟩ = some (.slice s k cs) := N5.b 3
  have N5b4 : w5.cell? ⟨w.heap.size + 1, 4, none⟩ = some (.int .i64 0) := N5.b 4
  have N5b5 : w5.cell? ⟨w.heap.size + 1, 5, none⟩ = some (.int .i64 at_) := N5.b 5
  have N5c0 : w5.cell? ⟨w1.heap.size, 0, none⟩ = some (.bool true) := N5.c 0
  have N5c1 : w5.cell? ⟨w1.heap.size, 1, none⟩ = some (.bool t) := N5.c 1
  have N5c2 : w5.cell? ⟨w1.heap.size, 2, none⟩ = some (.string z) := N5.c 2
  have N5c3 : w5.cell? ⟨w1.heap.size, 3, none⟩ = some (.string y) := N5.c 3
  go_wp2_with fail
  go_ret2
  exact ⟨rfl, N5.bl⟩
set_option maxRecDepth 100000 in
set_option maxHeartbeats 2000000 in
theorem in_YY_v (os arch nm bu z y file : ByteArray) (t x : Bool) (lv er at_ : Int) (p q s : Option Addr) (n m k cp cq cs : Nat) (w : World) (HO : Hid (∀ w1, Below w.heap.size w w1 → Calls Tryz.prog 17 #[.string file] w1 fun e w' => e = .returned (.agg #[.bool true, .bool t, .string z, .string y]) ∧ Below w1.heap.size w1 w')) (hO : Hid (∀ w1, Below w.heap.size w w1 → Calls Tryz.prog 8 #[.agg #[.string os, .string arch, .bool false, .int .i64 lv, .slice p n cp], .string z] w1 fun e w' => e = .returned (.bool true) ∧ Below w1.heap.size w1 w')) (ho : z.toList.isEmpty = false) (hR : Hid (∀ w1, Below w.heap.size w w1 → Calls Tryz.prog 8 #[.agg #[.string os, .string arch, .bool false, .int .i64 lv, .slice p n cp], .string y] w1 fun e w' => e = .returned (.bool true) ∧ Below w1.heap.size w1 w')) (hr : y.toList.isEmpty = false) (HH : Hid (∀ w1, Below w.heap.size w w1 → Calls Tryz.prog 19 #[.agg #[.string os, .string arch, .bool false, .int .i64 lv, .slice p n cp], .string bu] w1 fun e w' => e = .returned (.tuple #[.bool true, .int .i64 0]) ∧ Below w1.heap.size w1 w')) (vn : Int) (HV : Hid (∀ w1, Calls Tryz.prog 22 #[.agg #[.bool true, .bool t, .string z, .string y], .string nm] w1 fun e w' => e = .returned (.int .i64 vn) ∧ Below w1.heap.size w1 w')) (HC : Hid (∀ w1, Below w.heap.size w w1 → Calls Tryz.prog 20 #[.slice q m cq, .func (.func 21) #[] #[]] w1 fun e w' => e = .returned (.bool false) ∧ Below w1.heap.size w1 w')) :
    Calls Tryz.prog 10 #[.agg #[.string os, .string arch, .bool false, .int .i64 lv, .slice p n cp], .string file, .agg #[.string nm, .slice q m cq, .string bu, .slice s k cs, .int .i64 0, .int .i64 at_]] w fun e w' => e = .returned (.tuple #[(.int .i64 vn), (.int .i64 0)]) ∧ Below w.heap.size w w' := by
  have M0 := mem2_new w #[.string os, .string arch, .bool false, .int .i64 lv, .slice p n cp] #[.string nm, .slice q m cq, .string bu, .slice s k cs, .int .i64 0, .int .i64 at_] 24 33
  have M0b := M0.bl
  go_enter Tryz.func10, Tryz.ntmps10
  go_wp2_with fail
  refine (HO.out _ M0b).mono ?_
  rintro e w1 ⟨rfl, hB1⟩
  have M1 := M0.next hB1
  have hl1 := M1.l
  have hl0 : w.heap.size < w1.heap.size := by omega
  have M1a0 : w1.cell? ⟨w.heap.size, 0, none⟩ = some (.string os) := M1.a 0
  have M1a1 : w1.cell? ⟨w.heap.size, 1, none⟩ = some (.string arch) := M1.a 1
  have M1a2 : w1.cell? ⟨w.heap.size, 2, none⟩ = some (.bool false) := M1.a 2
  have M1a3 : w1.cell? ⟨w.heap.size, 3, none⟩ = some (.int .i64 lv) := M1.a 3
  have M1a4 : w1.cell? ⟨w.heap.size, 4, none⟩ = some (.slice p n cp) := M1.a 4
  have M1b0 : w1.cell? ⟨w.heap.size + 1, 0, none⟩ = some (.string nm) := M1.b 0
  have M1b1 : w1.cell? ⟨w.heap.size + 1, 1, none⟩ = some (.slice q m cq) := M1.b 1
  have M1b2 : w1.cell? ⟨w.heap.size + 1, 2, none⟩ = some (.string bu) := M1.b 2
  have M1b3 : w1.cell? ⟨w.heap.size + 1, 3, none⟩ = some (.slice s k cs) := M1.b 3
  have M1b4 : w1.cell? ⟨w.heap.size + 1, 4, none⟩ = some (.int .i64 0) := M1.b 4
  have M1b5 : w1.cell? ⟨w.heap.size + 1, 5, none⟩ = some (.int .i64 at_) := M1.b 5
  have N := M1.more #[.bool true, .bool t, .string z, .string y] 44
  clear hB1 M0 M0b
  have Na0 : (w1.alloc (Obj.cells #[.bool true, .bool t, .string z, .string y] 44)).cell? ⟨w.heap.size, 0, none⟩ = some (.string os) := N.a 0
  have Na1 : (w1.alloc (Obj.cells #[.bool true, .bool t, .string z, .string y] 44)).cell? ⟨w.heap.size, 1, none⟩ = some (.string arch) := N.a 1
  have Na2 : (w1.alloc (Obj.cells #[.bool true, .bool t, .string z, .string y] 44)).cell? ⟨w.heap.size, 2, none⟩ = some (.bool false) := N.a 2
  have Na3 : (w1.alloc (Obj.cells #[.bool true, .bool t, .string z, .string y] 44)).cell? ⟨w.heap.size, 3, none⟩ = some (.int .i64 lv) := N.a 3
  have Na4 : (w1.alloc (Obj.cells #[.bool true, .bool t, .string z, .string y] 44)).cell? ⟨w.heap.size, 4, none⟩ = some (.slice p n cp) := N.a 4
  have Nb0 : (w1.alloc (Obj.cells #[.bool true, .bool t, .string z, .string y] 44)).cell? ⟨w.heap.size + 1, 0, none⟩ = some (.string nm) := N.b 0
  have Nb1 : (w1.alloc (Obj.cells #[.bool true, .bool t, .string z, .string y] 44)).cell? ⟨w.heap.size + 1, 1, none⟩ = some (.slice q m cq) := N.b 1
  have Nb2 : (w1.alloc (Obj.cells #[.bool true, .bool t, .string z, .string y] 44)).cell? ⟨w.heap.size + 1, 2, none⟩ = some (.string bu) := N.b 2
  have Nb3 : (w1.alloc (Obj.cells #[.bool true, .bool t, .string z, .string y] 44)).cell? ⟨w.heap.size + 1, 3, none⟩ = some (.slice s k cs) := N.b 3
  have Nb4 : (w1.alloc (Obj.cells #[.bool true, .bool t, .string z, .string y] 44)).cell? ⟨w.heap.size + 1, 4, none⟩ = some (.int .i64 0) := N.b 4
  have Nb5 : (w1.alloc (Obj.cells #[.bool true, .bool t, .string z, .string y] 44)).cell? ⟨w.heap.size + 1, 5, none⟩ = some (.int .i64 at_) := N.b 5
  go_wp2_with fail
  refine (hO.out _ N.bl).mono ?_
  rintro e w2 ⟨rfl, hB2⟩
  have N2 := N.next hB2
  have hl2 := N2.l2
  have hlb2 : w.heap.size + 1 < w2.heap.size := by have := N2.l1; omega
  have hlc2 : w.heap.size < w2.heap.size := by omega
  clear hB2
  have N2a0 : w2.cell? ⟨w.heap.size, 0, none⟩ = some (.string os) := N2.a 0
  have N2a1 : w2.cell? ⟨w.heap.size, 1, none⟩ = some (.string arch) := N2.a 1
  have N2a2 : w2.cell? ⟨w.heap.size, 2, none⟩ = some (.bool false) := N2.a 2
  have N2a3 : w2.cell? ⟨w.heap.size, 3, none⟩ = some (.int .i64 lv) := N2.a 3
  have N2a4 : w2.cell? ⟨w.heap.size, 4, none⟩ = some (.slice p n cp) := N2.a 4
  have N2b0 : w2.cell? ⟨w.heap.size + 1, 0, none⟩ = some (.string nm) := N2.b 0
  have N2b1 : w2.cell? ⟨w.heap.size + 1, 1, none⟩ = some (.slice q m cq) := N2.b 1
  have N2b2 : w2.cell? ⟨w.heap.size + 1, 2, none⟩ = some (.string bu) := N2.b 2
  have N2b3 : w2.cell? ⟨w.heap.size + 1, 3, none⟩ = some (.slice s k cs) := N2.b 3
  have N2b4 : w2.cell? ⟨w.heap.size + 1, 4, none⟩ = some (.int .i64 0) := N2.b 4
  have N2b5 : w2.cell? ⟨w.heap.size + 1, 5, none⟩ = some (.int .i64 at_) := N2.b 5
  have N2c0 : w2.cell? ⟨w1.heap.size, 0, none⟩ = some (.bool true) := N2.c 0
  have N2c1 : w2.cell? ⟨w1.heap.size, 1, none⟩ = some (.bool t) := N2.c 1
  have N2c2 : w2.cell? ⟨w1.heap.size, 2, none⟩ = some (.string z) := N2.c 2
  have N2c3 : w2.cell? ⟨w1.heap.size, 3, none⟩ = some (.string y) := N2.c 3
  go_wp2_with fail
  refine (hR.out _ N2.bl).mono ?_
  rintro e w3 ⟨rfl, hB3⟩
  have N3 := N2.next hB3
  have hl3 := N3.l2
  have hlb3 : w.heap.size + 1 < w3.heap.size := by have := N3.l1; omega
  have hlc3 : w.heap.size < w3.heap.size := by omega
  clear hB3
  have N3a0 : w3.cell? ⟨w.heap.size, 0, none⟩ = some (.string os) := N3.a 0
  have N3a1 : w3.cell? ⟨w.heap.size, 1, none⟩ = some (.string arch) := N3.a 1
  have N3a2 : w3.cell? ⟨w.heap.size, 2, none⟩ = some (.bool false) := N3.a 2
  have N3a3 : w3.cell? ⟨w.heap.size, 3, none⟩ = some (.int .i64 lv) := N3.a 3
  have N3a4 : w3.cell? ⟨w.heap.size, 4, none⟩ = some (.slice p n cp) := N3.a 4
  have N3b0 : w3.cell? ⟨w.heap.size + 1, 0, none⟩ = some (.string nm) := N3.b 0
  have N3b1 : w3.cell? ⟨w.heap.size + 1, 1, none⟩ = some (.slice q m cq) := N3.b 1
  have N3b2 : w3.cell? ⟨w.heap.size + 1, 2, none⟩ = some (.string bu) := N3.b 2
  have N3b3 : w3.cell? ⟨w.heap.size + 1, 3, none⟩ = some (.slice s k cs) := N3.b 3
  have N3b4 : w3.cell? ⟨w.heap.size + 1, 4, none⟩ = some (.int .i64 0) := N3.b 4
  have N3b5 : w3.cell? ⟨w.heap.size + 1, 5, none⟩ = some (.int .i64 at_) := N3.b 5
  have N3c0 : w3.cell? ⟨w1.heap.size, 0, none⟩ = some (.bool true) := N3.c 0
  have N3c1 : w3.cell? ⟨w1.heap.size, 1, none⟩ = some (.bool t) := N3.c 1
  have N3c2 : w3.cell? ⟨w1.heap.size, 2, none⟩ = some (.string z) := N3.c 2
  have N3c3 : w3.cell? ⟨w1.heap.size, 3, none⟩ = some (.string y) := N3.c 3
  go_wp2_with fail
  refine (HH.out _ N3.bl).mono ?_
  rintro e w4 ⟨rfl, hB4⟩
  have N4 := N3.next hB4
  have hl4 := N4.l2
  have hlb4 : w.heap.size + 1 < w4.heap.size := by have := N4.l1; omega
  have hlc4 : w.heap.size < w4.heap.size := by omega
  clear hB4
  have N4a0 : w4.cell? ⟨w.heap.size, 0, none⟩ = some (.string os) := N4.a 0
  have N4a1 : w4.cell? ⟨w.heap.size, 1, none⟩ = some (.string arch) := N4.a 1
  have N4a2 : w4.cell? ⟨w.heap.size, 2, none⟩ = some (.bool false) := N4.a 2
  have N4a3 : w4.cell? ⟨w.heap.size, 3, none⟩ = some (.int .i64 lv) := N4.a 3
  have N4a4 : w4.cell? ⟨w.heap.size, 4, none⟩ = some (.slice p n cp) := N4.a 4
  have N4b0 : w4.cell? ⟨w.heap.size + 1, 0, none⟩ = some (.string nm) := N4.b 0
  have N4b1 : w4.cell? ⟨w.heap.size + 1, 1, none⟩ = some (.slice q m cq) := N4.b 1
  have N4b2 : w4.cell? ⟨w.heap.size + 1, 2, none⟩ = some (.string bu) := N4.b 2
  have N4b3 : w4.cell? ⟨w.heap.size + 1, 3, none⟩ = some (.slice s k cs) := N4.b 3
  have N4b4 : w4.cell? ⟨w.heap.size + 1, 4, none⟩ = some (.int .i64 0) := N4.b 4
  have N4b5 : w4.cell? ⟨w.heap.size + 1, 5, none⟩ = some (.int .i64 at_) := N4.b 5
  have N4c0 : w4.cell? ⟨w1.heap.size, 0, none⟩ = some (.bool true) := N4.c 0
  have N4c1 : w4.cell? ⟨w1.heap.size, 1, none⟩ = some (.bool t) := N4.c 1
  have N4c2 : w4.cell? ⟨w1.heap.size, 2, none⟩ = some (.string z) := N4.c 2
  have N4c3 : w4.cell? ⟨w1.heap.size, 3, none⟩ = some (.string y) := N4.c 3
  go_wp2_with fail
  refine (HC.out _ N4.bl).mono ?_
  rintro e w5 ⟨rfl, hB5⟩
  have N5 := N4.next hB5
  have hl5 := N5.l2
  have hlb5 : w.heap.size + 1 < w5.heap.size := by have := N5.l1; omega
  have hlc5 : w.heap.size < w5.heap.size := by omega
  clear hB5
  have N5a0 : w5.cell? ⟨w.heap.size, 0, none⟩ = some (.string os) := N5.a 0
  have N5a1 : w5.cell? ⟨w.heap.size, 1, none⟩ = some (.string arch) := N5.a 1
  have N5a2 : w5.cell? ⟨w.heap.size, 2, none⟩ = some (.bool false) := N5.a 2
  have N5a3 : w5.cell? ⟨w.heap.size, 3, none⟩ = some (.int .i64 lv) := N5.a 3
  have N5a4 : w5.cell? ⟨w.heap.size, 4, none⟩ = some (.slice p n cp) := N5.a 4
  have N5b0 : w5.cell? ⟨w.heap.size + 1, 0, none⟩ = some (.string nm) := N5.b 0
  have N5b1 : w5.cell? ⟨w.heap.size + 1, 1, none⟩ = some (.slice q m cq) := N5.b 1
  have N5b2 : w5.cell? ⟨w.heap.size + 1, 2, none⟩ = some (.string bu) := N5.b 2
  have N5b3 : w5.cell? ⟨w.heap.size + 1, 3, none⟩ = some (.slice s k cs) := N5.b 3
  have N5b4 : w5.cell? ⟨w.heap.size + 1, 4, none⟩ = some (.int .i64 0) := N5.b 4
  have N5b5 : w5.cell? ⟨w.heap.size + 1, 5, none⟩ = some (.int .i64 at_) := N5.b 5
  have N5c0 : w5.cell? ⟨w1.heap.size, 0, none⟩ = some (.bool true) := N5.c 0
  have N5c1 : w5.cell? ⟨w1.heap.size, 1, none⟩ = some (.bool t) := N5.c 1
  have N5c2 : w5.cell? ⟨w1.heap.size, 2, none⟩ = some (.string z) := N5.c 2
  have N5c3 : w5.cell? ⟨w1.heap.size, 3, none⟩ = some (.string y) := N5.c 3
  go_wp2_with fail
  refine (HV.out _).mono ?_
  rintro e w6 ⟨rfl, hB6⟩
  have N6 := N5.next hB6
  have hl6 := N6.l2
  have hlb6 : w.heap.size + 1 < w6.heap.size := by have := N6.l1; omega
  have hlc6 : w.heap.size < w6.heap.size := by omega
  clear hB6
  have N6a0 : w6.cell? ⟨w.heap.size, 0, none⟩ = some (.string os) := N6.a 0
  have N6a1 : w6.cell? ⟨w.heap.size, 1, none⟩ = some (.string arch) := N6.a 1
  have N6a2 : w6.cell? ⟨w.heap.size, 2, none⟩ = some (.bool false) := N6.a 2
  have N6a3 : w6.cell? ⟨w.heap.size, 3, none⟩ = some (.int .i64 lv) := N6.a 3
  have N6a4 : w6.cell? ⟨w.heap.size, 4, none⟩ = some (.slice p n cp) := N6.a 4
  have N6b0 : w6.cell? ⟨w.heap.size + 1, 0, none⟩ = some (.string nm) := N6.b 0
  have N6b1 : w6.cell? ⟨w.heap.size + 1, 1, none⟩ = some (.slice q m cq) := N6.b 1
  have N6b2 : w6.cell? ⟨w.heap.size + 1, 2, none⟩ = some (.string bu) := N6.b 2
  have N6b3 : w6.cell? ⟨w.heap.size + 1, 3, none⟩ = some (.slice s k cs) := N6.b 3
  have N6b4 : w6.cell? ⟨w.heap.size + 1, 4, none⟩ = some (.int .i64 0) := N6.b 4
  have N6b5 : w6.cell? ⟨w.heap.size + 1, 5, none⟩ = some (.int .i64 at_) := N6.b 5
  have N6c0 : w6.cell? ⟨w1.heap.size, 0, none⟩ = some (.bool true) := N6.c 0
  have N6c1 : w6.cell? ⟨w1.heap.size, 1, none⟩ = some (.bool t) := N6.c 1
  have N6c2 : w6.cell? ⟨w1.heap.size, 2, none⟩ = some (.string z) := N6.c 2
  have N6c3 : w6.cell? ⟨w1.heap.size, 3, none⟩ = some (.string y) := N6.c 3
  go_wp2_with fail
  go_ret2
  exact ⟨rfl, N6.bl⟩
end Go.Proofs.YtpibehfmbmincaaGreatDoor
