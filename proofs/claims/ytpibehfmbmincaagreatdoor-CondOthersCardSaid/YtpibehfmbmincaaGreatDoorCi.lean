/- Walks: In, of a header with a fault. -/
import Derived.Test.YtpibehfmbmincaaGreatDoorCf
namespace Go.Proofs.YtpibehfmbmincaaGreatDoor
set_option linter.unusedVariables false
open Go.ChangeShapes Go.WideShapes Go.ChangeAt Go.RowKit

set_option maxRecDepth 100000 in
set_option maxHeartbeats 2000000 in
theorem inq_no_n (os arch nm bu z y file : ByteArray) (cgo t : Bool) (lv fl at_ : Int) (p q s : Option Addr) (n m k cp cq cs : Nat) (w : World) (hfl : (fl != 0) = true) (HO : Hid (∀ w1, Below w.heap.size w w1 → Calls Tryz.prog 17 #[.string file] w1 fun e w' => e = .returned (.agg #[.bool false, .bool t, .string z, .string y]) ∧ Below w1.heap.size w1 w')) :
    Calls Tryz.prog 10 #[.agg #[.string os, .string arch, .bool cgo, .int .i64 lv, .slice p n cp], .string file, .agg #[.string nm, .slice q m cq, .string bu, .slice s k cs, .int .i64 fl, .int .i64 at_]] w fun e w' => e = .returned (.tuple #[(.int .i64 0), (.int .i64 0)]) ∧ Below w.heap.size w w' := by
  have M0 := mem2_new w #[.string os, .string arch, .bool cgo, .int .i64 lv, .slice p n cp] #[.string nm, .slice q m cq, .string bu, .slice s k cs, .int .i64 fl, .int .i64 at_] 24 33
  have M0b := M0.bl
  go_enter Tryz.func10, Tryz.ntmps10
  go_wp2_with fail
  refine (HO.out _ M0b).mono ?_
  rintro e w1 ⟨rfl, hB1⟩
  have M1 := M0.next hB1
  have hl1 := M1.l
  have hl0 : w.heap.size < w1.heap.size := by omega
  have M1a0 : w1.cell? ⟨w.heap.size, 0, none⟩ = some (.string os) := M1.a 0
  have M1a1 : w1.cell? ⟨w.heap.size, 1, none⟩ = some (.string arch) := M1.a 1
  have M1a2 : w1.cell? ⟨w.heap.size, 2, none⟩ = some (.bool cgo) := M1.a 2
  have M1a3 : w1.cell? ⟨w.heap.size, 3, none⟩ = some (.int .i64 lv) := M1.a 3
  have M1a4 : w1.cell? ⟨w.heap.size, 4, none⟩ = some (.slice p n cp) := M1.a 4
  have M1b0 : w1.cell? ⟨w.heap.size + 1, 0, none⟩ = some (.string nm) := M1.b 0
  have M1b1 : w1.cell? ⟨w.heap.size + 1, 1, none⟩ = some (.slice q m cq) := M1.b 1
  have M1b2 : w1.cell? ⟨w.heap.size + 1, 2, none⟩ = some (.string bu) := M1.b 2
  have M1b3 : w1.cell? ⟨w.heap.size + 1, 3, none⟩ = some (.slice s k cs) := M1.b 3
  have M1b4 : w1.cell? ⟨w.heap.size + 1, 4, none⟩ = some (.int .i64 fl) := M1.b 4
  have M1b5 : w1.cell? ⟨w.heap.size + 1, 5, none⟩ = some (.int .i64 at_) := M1.b 5
  have N := M1.more #[.bool false, .bool t, .string z, .string y] 44
  clear hB1 M0 M0b
  have Na0 : (w1.alloc (Obj.cells #[.bool false, .bool t, .string z, .string y] 44)).cell? ⟨w.heap.size, 0, none⟩ = some (.string os) := N.a 0
  have Na1 : (w1.alloc (Obj.cells #[.bool false, .bool t, .string z, .string y] 44)).cell? ⟨w.heap.size, 1, none⟩ = some (.string arch) := N.a 1
  have Na2 : (w1.alloc (Obj.cells #[.bool false, .bool t, .string z, .string y] 44)).cell? ⟨w.heap.size, 2, none⟩ = some (.bool cgo) := N.a 2
  have Na3 : (w1.alloc (Obj.cells #[.bool false, .bool t, .string z, .string y] 44)).cell? ⟨w.heap.size, 3, none⟩ = some (.int .i64 lv) := N.a 3
  have Na4 : (w1.alloc (Obj.cells #[.bool false, .bool t, .string z, .string y] 44)).cell? ⟨w.heap.size, 4, none⟩ = some (.slice p n cp) := N.a 4
  have Nb0 : (w1.alloc (Obj.cells #[.bool false, .bool t, .string z, .string y] 44)).cell? ⟨w.heap.size + 1, 0, none⟩ = some (.string nm) := N.b 0
  have Nb1 : (w1.alloc (Obj.cells #[.bool false, .bool t, .string z, .string y] 44)).cell? ⟨w.heap.size + 1, 1, none⟩ = some (.slice q m cq) := N.b 1
  have Nb2 : (w1.alloc (Obj.cells #[.bool false, .bool t, .string z, .string y] 44)).cell? ⟨w.heap.size + 1, 2, none⟩ = some (.string bu) := N.b 2
  have Nb3 : (w1.alloc (Obj.cells #[.bool false, .bool t, .string z, .string y] 44)).cell? ⟨w.heap.size + 1, 3, none⟩ = some (.slice s k cs) := N.b 3
  have Nb4 : (w1.alloc (Obj.cells #[.bool false, .bool t, .string z, .string y] 44)).cell? ⟨w.heap.size + 1, 4, none⟩ = some (.int .i64 fl) := N.b 4
  have Nb5 : (w1.alloc (Obj.cells #[.bool false, .bool t, .string z, .string y] 44)).cell? ⟨w.heap.size + 1, 5, none⟩ = some (.int .i64 at_) := N.b 5
  go_wp2_with fail
  go_ret2
  exact ⟨rfl, N.bl⟩
set_option maxRecDepth 100000 in
set_option maxHeartbeats 2000000 in
theorem inq_N_n (os arch nm bu z y file : ByteArray) (cgo t : Bool) (lv fl at_ : Int) (p q s : Option Addr) (n m k cp cq cs : Nat) (w : World) (hfl : (fl != 0) = true) (HO : Hid (∀ w1, Below w.heap.size w w1 → Calls Tryz.prog 17 #[.string file] w1 fun e w' => e = .returned (.agg #[.bool true, .bool t, .string z, .string y]) ∧ Below w1.heap.size w1 w')) (hO : Hid (∀ w1, Below w.heap.size w w1 → Calls Tryz.prog 8 #[.agg #[.string os, .string arch, .bool cgo, .int .i64 lv, .slice p n cp], .string z] w1 fun e w' => e = .returned (.bool false) ∧ Below w1.heap.size w1 w')) (ho : z.toList.isEmpty = false) :
    Calls Tryz.prog 10 #[.agg #[.string os, .string arch, .bool cgo, .int .i64 lv, .slice p n cp], .string file, .agg #[.string nm, .slice q m cq, .string bu, .slice s k cs, .int .i64 fl, .int .i64 at_]] w fun e w' => e = .returned (.tuple #[(.int .i64 0), (.int .i64 0)]) ∧ Below w.heap.size w w' := by
  have M0 := mem2_new w #[.string os, .string arch, .bool cgo, .int .i64 lv, .slice p n cp] #[.string nm, .slice q m cq, .string bu, .slice s k cs, .int .i64 fl, .int .i64 at_] 24 33
  have M0b := M0.bl
  go_enter Tryz.func10, Tryz.ntmps10
  go_wp2_with fail
  refine (HO.out _ M0b).mono ?_
  rintro e w1 ⟨rfl, hB1⟩
  have M1 := M0.next hB1
  have hl1 := M1.l
  have hl0 : w.heap.size < w1.heap.size := by omega
  have M1a0 : w1.cell? ⟨w.heap.size, 0, none⟩ = some (.string os) := M1.a 0
  have M1a1 : w1.cell? ⟨w.heap.size, 1, none⟩ = some (.string arch) := M1.a 1
  have M1a2 : w1.cell? ⟨w.heap.size, 2, none⟩ = some (.bool cgo) := M1.a 2
  have M1a3 : w1.cell? ⟨w.heap.size, 3, none⟩ = some (.int .i64 lv) := M1.a 3
  have M1a4 : w1.cell? ⟨w.heap.size, 4, none⟩ = some (.slice p n cp) := M1.a 4
  have M1b0 : w1.cell? ⟨w.heap.size + 1, 0, none⟩ = some (.string nm) := M1.b 0
  have M1b1 : w1.cell? ⟨w.heap.size + 1, 1, none⟩ = some (.slice q m cq) := M1.b 1
  have M1b2 : w1.cell? ⟨w.heap.size + 1, 2, none⟩ = some (.string bu) := M1.b 2
  have M1b3 : w1.cell? ⟨w.heap.size + 1, 3, none⟩ = some (.slice s k cs) := M1.b 3
  have M1b4 : w1.cell? ⟨w.heap.size + 1, 4, none⟩ = some (.int .i64 fl) := M1.b 4
  have M1b5 : w1.cell? ⟨w.heap.size + 1, 5, none⟩ = some (.int .i64 at_) := M1.b 5
  have N := M1.more #[.bool true, .bool t, .string z, .string y] 44
  clear hB1 M0 M0b
  have Na0 : (w1.alloc (Obj.cells #[.bool true, .bool t, .string z, .string y] 44)).cell? ⟨w.heap.size, 0, none⟩ = some (.string os) := N.a 0
  have Na1 : (w1.alloc (Obj.cells #[.bool true, .bool t, .string z, .string y] 44)).cell? ⟨w.heap.size, 1, none⟩ = some (.string arch) := N.a 1
  have Na2 : (w1.alloc (Obj.cells #[.bool true, .bool t, .string z, .string y] 44)).cell? ⟨w.heap.size, 2, none⟩ = some (.bool cgo) := N.a 2
  have Na3 : (w1.alloc (Obj.cells #[.bool true, .bool t, .string z, .string y] 44)).cell? ⟨w.heap.size, 3, none⟩ = some (.int .i64 lv) := N.a 3
  have Na4 : (w1.alloc (Obj.cells #[.bool true, .bool t, .string z, .string y] 44)).cell? ⟨w.heap.size, 4, none⟩ = some (.slice p n cp) := N.a 4
  have Nb0 : (w1.alloc (Obj.cells #[.bool true, .bool t, .string z, .string y] 44)).cell? ⟨w.heap.size + 1, 0, none⟩ = some (.string nm) := N.b 0
  have Nb1 : (w1.alloc (Obj.cells #[.bool true, .bool t, .string z, .string y] 44)).cell? ⟨w.heap.size + 1, 1, none⟩ = some (.slice q m cq) := N.b 1
  have Nb2 : (w1.alloc (Obj.cells #[.bool true, .bool t, .string z, .string y] 44)).cell? ⟨w.heap.size + 1, 2, none⟩ = some (.string bu) := N.b 2
  have Nb3 : (w1.alloc (Obj.cells #[.bool true, .bool t, .string z, .string y] 44)).cell? ⟨w.heap.size + 1, 3, none⟩ = some (.slice s k cs) := N.b 3
  have Nb4 : (w1.alloc (Obj.cells #[.bool true, .bool t, .string z, .string y] 44)).cell? ⟨w.heap.size + 1, 4, none⟩ = some (.int .i64 fl) := N.b 4
  have Nb5 : (w1.alloc (Obj.cells #[.bool true, .bool t, .string z, .string y] 44)).cell? ⟨w.heap.size + 1, 5, none⟩ = some (.int .i64 at_) := N.b 5
  go_wp2_with fail
  refine (hO.out _ N.bl).mono ?_
  rintro e w2 ⟨rfl, hB2⟩
  have N2 := N.next hB2
  have hl2 := N2.l2
  have hlb2 : w.heap.size + 1 < w2.heap.size := by have := N2.l1; omega
  have hlc2 : w.heap.size < w2.heap.size := by omega
  clear hB2
  have N2a0 : w2.cell? ⟨w.heap.size, 0, none⟩ = some (.string os) := N2.a 0
  have N2a1 : w2.cell? ⟨w.heap.size, 1, none⟩ = some (.string arch) := N2.a 1
  have N2a2 : w2.cell? ⟨w.heap.size, 2, none⟩ = some (.bool cgo) := N2.a 2
  have N2a3 : w2.cell? ⟨w.heap.size, 3, none⟩ = some (.int .i64 lv) := N2.a 3
  have N2a4 : w2.cell? ⟨w.heap.size, 4, none⟩ = some (.slice p n cp) := N2.a 4
  have N2b0 : w2.cell? ⟨w.heap.size + 1, 0, none⟩ = some (.string nm) := N2.b 0
  have N2b1 : w2.cell? ⟨w.heap.size + 1, 1, none⟩ = some (.slice q m cq) := N2.b 1
  have N2b2 : w2.cell? ⟨w.heap.size + 1, 2, none⟩ = some (.string bu) := N2.b 2
  have N2b3 : w2.cell? ⟨w.heap.size + 1, 3, none⟩ = some (.slice s k cs) := N2.b 3
  have N2b4 : w2.cell? ⟨w.heap.size + 1, 4, none⟩ = some (.int .i64 fl) := N2.b 4
  have N2b5 : w2.cell? ⟨w.heap.size + 1, 5, none⟩ = some (.int .i64 at_) := N2.b 5
  have N2c0 : w2.cell? ⟨w1.heap.size, 0, none⟩ = some (.bool true) := N2.c 0
  have N2c1 : w2.cell? ⟨w1.heap.size, 1, none⟩ = some (.bool t) := N2.c 1
  have N2c2 : w2.cell? ⟨w1.heap.size, 2, none⟩ = some (.string z) := N2.c 2
  have N2c3 : w2.cell? ⟨w1.heap.size, 3, none⟩ = some (.string y) := N2.c 3
  go_wp2_with fail
  go_ret2
  exact ⟨rfl, N2.bl⟩
set_option maxRecDepth 100000 in
set_option maxHeartbeats 2000000 in
theorem inq_EN_n (os arch nm bu z y file : ByteArray) (cgo t : Bool) (lv fl at_ : Int) (p q s : Option Addr) (n m k cp cq cs : Nat) (w : World) (hfl : (fl != 0) = true) (HO : Hid (∀ w1, Below w.heap.size w w1 → Calls Tryz.prog 17 #[.string file] w1 fun e w' => e = .returned (.agg #[.bool true, .bool t, .string z, .string y]) ∧ Below w1.heap.size w1 w')) (ho : z.toList.isEmpty = true) (hR : Hid (∀ w1, Below w.heap.size w w1 → Calls Tryz.prog 8 #[.agg #[.string os, .string arch, .bool cgo, .int .i64 lv, .slice p n cp], .string y] w1 fun e w' => e = .returned (.bool false) ∧ Below w1.heap.size w1 w')) (hr : y.toList.isEmpty = false) :
    Calls Tryz.prog 10 #[.agg #[.string os, .string arch, .bool cgo, .int .i64 lv, .slice p n cp], .string file, .agg #[.string nm, .slice q m cq, .string bu, .slice s k cs, .int .i64 fl, .int .i64 at_]] w fun e w' => e = .returned (.tuple #[(.int .i64 0), (.int .i64 0)]) ∧ Below w.heap.size w w' := by
  have M0 := mem2_new w #[.string os, .string arch, .bool cgo, .int .i64 lv, .slice p n cp] #[.string nm, .slice q m cq, .string bu, .slice s k cs, .int .i64 fl, .int .i64 at_] 24 33
  have M0b := M0.bl
  go_enter Tryz.func10, Tryz.ntmps10
  go_wp2_with fail
  refine (HO.out _ M0b).mono ?_
  rintro e w1 ⟨rfl, hB1⟩
  have M1 := M0.next hB1
  have hl1 := M1.l
  have hl0 : w.heap.size < w1.heap.size := by omega
  have M1a0 : w1.cell? ⟨w.heap.size, 0, none⟩ = some (.string os) := M1.a 0
  have M1a1 : w1.cell? ⟨w.heap.size, 1, none⟩ = some (.string arch) := M1.a 1
  have M1a2 : w1.cell? ⟨w.heap.size, 2, none⟩ = some (.bool cgo) := M1.a 2
  have M1a3 : w1.cell? ⟨w.heap.size, 3, none⟩ = some (.int .i64 lv) := M1.a 3
  have M1a4 : w1.cell? ⟨w.heap.size, 4, none⟩ = some (.slice p n cp) := M1.a 4
  have M1b0 : w1.cell? ⟨w.heap.size + 1, 0, none⟩ = some (.string nm) := M1.b 0
  have M1b1 : w1.cell? ⟨w.heap.size + 1, 1, none⟩ = some (.slice q m cq) := M1.b 1
  have M1b2 : w1.cell? ⟨w.heap.size + 1, 2, none⟩ = some (.string bu) := M1.b 2
  have M1b3 : w1.cell? ⟨w.heap.size + 1, 3, none⟩ = some (.slice s k cs) := M1.b 3
  have M1b4 : w1.cell? ⟨w.heap.size + 1, 4, none⟩ = some (.int .i64 fl) := M1.b 4
  have M1b5 : w1.cell? ⟨w.heap.size + 1, 5, none⟩ = some (.int .i64 at_) := M1.b 5
  have N := M1.more #[.bool true, .bool t, .string z, .string y] 44
  clear hB1 M0 M0b
  have Na0 : (w1.alloc (Obj.cells #[.bool true, .bool t, .string z, .string y] 44)).cell? ⟨w.heap.size, 0, none⟩ = some (.string os) := N.a 0
  have Na1 : (w1.alloc (Obj.cells #[.bool true, .bool t, .string z, .string y] 44)).cell? ⟨w.heap.size, 1, none⟩ = some (.string arch) := N.a 1
  have Na2 : (w1.alloc (Obj.cells #[.bool true, .bool t, .string z, .string y] 44)).cell? ⟨w.heap.size, 2, none⟩ = some (.bool cgo) := N.a 2
  have Na3 : (w1.alloc (Obj.cells #[.bool true, .bool t, .string z, .string y] 44)).cell? ⟨w.heap.size, 3, none⟩ = some (.int .i64 lv) := N.a 3
  have Na4 : (w1.alloc (Obj.cells #[.bool true, .bool t, .string z, .string y] 44)).cell? ⟨w.heap.size, 4, none⟩ = some (.slice p n cp) := N.a 4
  have Nb0 : (w1.alloc (Obj.cells #[.bool true, .bool t, .string z, .string y] 44)).cell? ⟨w.heap.size + 1, 0, none⟩ = some (.string nm) := N.b 0
  have Nb1 : (w1.alloc (Obj.cells #[.bool true, .bool t, .string z, .string y] 44)).cell? ⟨w.heap.size + 1, 1, none⟩ = some (.slice q m cq) := N.b 1
  have Nb2 : (w1.alloc (Obj.cells #[.bool true, .bool t, .string z, .string y] 44)).cell? ⟨w.heap.size + 1, 2, none⟩ = some (.string bu) := N.b 2
  have Nb3 : (w1.alloc (Obj.cells #[.bool true, .bool t, .string z, .string y] 44)).cell? ⟨w.heap.size + 1, 3, none⟩ = some (.slice s k cs) := N.b 3
  have Nb4 : (w1.alloc (Obj.cells #[.bool true, .bool t, .string z, .string y] 44)).cell? ⟨w.heap.size + 1, 4, none⟩ = some (.int .i64 fl) := N.b 4
  have Nb5 : (w1.alloc (Obj.cells #[.bool true, .bool t, .string z, .string y] 44)).cell? ⟨w.heap.size + 1, 5, none⟩ = some (.int .i64 at_) := N.b 5
  go_wp2_with fail
  refine (hR.out _ N.bl).mono ?_
  rintro e w2 ⟨rfl, hB2⟩
  have N2 := N.next hB2
  have hl2 := N2.l2
  have hlb2 : w.heap.size + 1 < w2.heap.size := by have := N2.l1; omega
  have hlc2 : w.heap.size < w2.heap.size := by omega
  clear hB2
  have N2a0 : w2.cell? ⟨w.heap.size, 0, none⟩ = some (.string os) := N2.a 0
  have N2a1 : w2.cell? ⟨w.heap.size, 1, none⟩ = some (.string arch) := N2.a 1
  have N2a2 : w2.cell? ⟨w.heap.size, 2, none⟩ = some (.bool cgo) := N2.a 2
  have N2a3 : w2.cell? ⟨w.heap.size, 3, none⟩ = some (.int .i64 lv) := N2.a 3
  have N2a4 : w2.cell? ⟨w.heap.size, 4, none⟩ = some (.slice p n cp) := N2.a 4
  have N2b0 : w2.cell? ⟨w.heap.size + 1, 0, none⟩ = some (.string nm) := N2.b 0
  have N2b1 : w2.cell? ⟨w.heap.size + 1, 1, none⟩ = some (.slice q m cq) := N2.b 1
  have N2b2 : w2.cell? ⟨w.heap.size + 1, 2, none⟩ = some (.string bu) := N2.b 2
  have N2b3 : w2.cell? ⟨w.heap.size + 1, 3, none⟩ = some (.slice s k cs) := N2.b 3
  have N2b4 : w2.cell? ⟨w.heap.size + 1, 4, none⟩ = some (.int .i64 fl) := N2.b 4
  have N2b5 : w2.cell? ⟨w.heap.size + 1, 5, none⟩ = some (.int .i64 at_) := N2.b 5
  have N2c0 : w2.cell? ⟨w1.heap.size, 0, none⟩ = some (.bool true) := N2.c 0
  have N2c1 : w2.cell? ⟨w1.heap.size, 1, none⟩ = some (.bool t) := N2.c 1
  have N2c2 : w2.cell? ⟨w1.heap.size, 2, none⟩ = some (.string z) := N2.c 2
  have N2c3 : w2.cell? ⟨w1.heap.size, 3, none⟩ = some (.string y) := N2.c 3
  go_wp2_with fail
  go_ret2
  exact ⟨rfl, N2.bl⟩
set_option maxRecDepth 100000 in
set_option maxHeartbeats 2000000 in
theorem inq_YN_n (os arch nm bu z y file : ByteArray) (cgo t : Bool) (lv fl at_ : Int) (p q s : Option Addr) (n m k cp cq cs : Nat) (w : World) (hfl : (fl != 0) = true) (HO : Hid (∀ w1, Below w.heap.size w w1 → Calls Tryz.prog 17 #[.string file] w1 fun e w' => e = .returned (.agg #[.bool true, .bool t, .string z, .string y]) ∧ Below w1.heap.size w1 w')) (hO : Hid (∀ w1, Below w.heap.size w w1 → Calls Tryz.prog 8 #[.agg #[.string os, .string arch, .bool cgo, .int .i64 lv, .slice p n cp], .string z] w1 fun e w' => e = .returned (.bool true) ∧ Below w1.heap.size w1 w')) (ho : z.toList.isEmpty = false) (hR : Hid (∀ w1, Below w.heap.size w w1 → Calls Tryz.prog 8 #[.agg #[.string os, .string arch, .bool cgo, .int .i64 lv, .slice p n cp], .string y] w1 fun e w' => e = .returned (.bool false) ∧ Below w1.heap.size w1 w')) (hr : y.toList.isEmpty = false) :
    Calls Tryz.prog 10 #[.agg #[.string os, .string arch, .bool cgo, .int .i64 lv, .slice p n cp], .string file, .agg #[.string nm, .slice q m cq, .string bu, .slice s k cs, .int .i64 fl, .int .i64 at_]] w fun e w' => e = .returned (.tuple #[(.int .i64 0), (.int .i64 0)]) ∧ Below w.heap.size w w' := by
  have M0 := mem2_new w #[.string os, .string arch, .bool cgo, .int .i64 lv, .slice p n cp] #[.string nm, .slice q m cq, .string bu, .slice s k cs, .int .i64 fl, .int .i64 at_] 24 33
  have M0b := M0.bl
  go_enter Tryz.func10, Tryz.ntmps10
  go_wp2_with fail
  refine (HO.out _ M0b).mono ?_
  rintro e w1 ⟨rfl, hB1⟩
  have M1 := M0.next hB1
  have hl1 := M1.l
  have hl0 : w.heap.size < w1.heap.size := by omega
  have M1a0 : w1.cell? ⟨w.heap.size, 0, none⟩ = some (.string os) := M1.a 0
  have M1a1 : w1.cell? ⟨w.heap.size, 1, none⟩ = some (.string arch) := M1.a 1
  have M1a2 : w1.cell? ⟨w.heap.size, 2, none⟩ = some (.bool cgo) := M1.a 2
  have M1a3 : w1.cell? ⟨w.heap.size, 3, none⟩ = some (.int .i64 lv) := M1.a 3
  have M1a4 : w1.cell? ⟨w.heap.size, 4, none⟩ = some (.slice p n cp) := M1.a 4
  have M1b0 : w1.cell? ⟨w.heap.size + 1, 0, none⟩ = some (.string nm) := M1.b 0
  have M1b1 : w1.cell? ⟨w.heap.size + 1, 1, none⟩ = some (.slice q m cq) := M1.b 1
  have M1b2 : w1.cell? ⟨w.heap.size + 1, 2, none⟩ = some (.string bu) := M1.b 2
  have M1b3 : w1.cell? ⟨w.heap.size + 1, 3, none⟩ = some (.slice s k cs) := M1.b 3
  have M1b4 : w1.cell? ⟨w.heap.size + 1, 4, none⟩ = some (.int .i64 fl) := M1.b 4
  have M1b5 : w1.cell? ⟨w.heap.size + 1, 5, none⟩ = some (.int .i64 at_) := M1.b 5
  have N := M1.more #[.bool true, .bool t, .string z, .string y] 44
  clear hB1 M0 M0b
  have Na0 : (w1.alloc (Obj.cells #[.bool true, .bool t, .string z, .string y] 44)).cell? ⟨w.heap.size, 0, none⟩ = some (.string os) := N.a 0
  have Na1 : (w1.alloc (Obj.cells #[.bool true, .bool t, .string z, .string y] 44)).cell? ⟨w.heap.size, 1, none⟩ = some (.string arch) := N.a 1
  have Na2 : (w1.alloc (Obj.cells #[.bool true, .bool t, .string z, .string y] 44)).cell? ⟨w.heap.size, 2, none⟩ = some (.bool cgo) := N.a 2
  have Na3 : (w1.alloc (Obj.cells #[.bool true, .bool t, .string z, .string y] 44)).cell? ⟨w.heap.size, 3, none⟩ = some (.int .i64 lv) := N.a 3
  have Na4 : (w1.alloc (Obj.cells #[.bool true, .bool t, .string z, .string y] 44)).cell? ⟨w.heap.size, 4, none⟩ = some (.slice p n cp) := N.a 4
  have Nb0 : (w1.alloc (Obj.cells #[.bool true, .bool t, .string z, .string y] 44)).cell? ⟨w.heap.size + 1, 0, none⟩ = some (.string nm) := N.b 0
  have Nb1 : (w1.alloc (Obj.cells #[.bool true, .bool t, .string z, .string y] 44)).cell? ⟨w.heap.size + 1, 1, none⟩ = some (.slice q m cq) := N.b 1
  have Nb2 : (w1.alloc (Obj.cells #[.bool true, .bool t, .string z, .string y] 44)).cell? ⟨w.heap.size + 1, 2, none⟩ = some (.string bu) := N.b 2
  have Nb3 : (w1.alloc (Obj.cells #[.bool true, .bool t, .string z, .string y] 44)).cell? ⟨w.heap.size + 1, 3, none⟩ = some (.slice s k cs) := N.b 3
  have Nb4 : (w1.alloc (Obj.cells #[.bool true, .bool t, .string z, .string y] 44)).cell? ⟨w.heap.size + 1, 4, none⟩ = some (.int .i64 fl) := N.b 4
  have Nb5 : (w1.alloc (Obj.cells #[.bool true, .bool t, .string z, .string y] 44)).cell? ⟨w.heap.size + 1, 5, none⟩ = some (.int .i64 at_) := N.b 5
  go_wp2_with fail
  refine (hO.out _ N.bl).mono ?_
  rintro e w2 ⟨rfl, hB2⟩
  have N2 := N.next hB2
  have hl2 := N2.l2
  have hlb2 : w.heap.size + 1 < w2.heap.size := by have := N2.l1; omega
  have hlc2 : w.heap.size < w2.heap.size := by omega
  clear hB2
  have N2a0 : w2.cell? ⟨w.heap.size, 0, none⟩ = some (.string os) := N2.a 0
  have N2a1 : w2.cell? ⟨w.heap.size, 1, none⟩ = some (.string arch) := N2.a 1
  have N2a2 : w2.cell? ⟨w.heap.size, 2, none⟩ = some (.bool cgo) := N2.a 2
  have N2a3 : w2.cell? ⟨w.heap.size, 3, none⟩ = some (.int .i64 lv) := N2.a 3
  have N2a4 : w2.cell? ⟨w.heap.size, 4, none⟩ = some (.slice p n cp) := N2.a 4
  have N2b0 : w2.cell? ⟨w.heap.size + 1, 0, none⟩ = some (.string nm) := N2.b 0
  have N2b1 : w2.cell? ⟨w.heap.size + 1, 1, none⟩ = some (.slice q m cq) := N2.b 1
  have N2b2 : w2.cell? ⟨w.heap.size + 1, 2, none⟩ = some (.string bu) := N2.b 2
  have N2b3 : w2.cell? ⟨w.heap.size + 1, 3, none⟩ = some (.slice s k cs) := N2.b 3
  have N2b4 : w2.cell? ⟨w.heap.size + 1, 4, none⟩ = some (.int .i64 fl) := N2.b 4
  have N2b5 : w2.cell? ⟨w.heap.size + 1, 5, none⟩ = some (.int .i64 at_) := N2.b 5
  have N2c0 : w2.cell? ⟨w1.heap.size, 0, none⟩ = some (.bool true) := N2.c 0
  have N2c1 : w2.cell? ⟨w1.heap.size, 1, none⟩ = some (.bool t) := N2.c 1
  have N2c2 : w2.cell? ⟨w1.heap.size, 2, none⟩ = some (.string z) := N2.c 2
  have N2c3 : w2.cell? ⟨w1.heap.size, 3, none⟩ = some (.string y) := N2.c 3
  go_wp2_with fail
  refine (hR.out _ N2.bl).mono ?_
  rintro e w3 ⟨rfl, hB3⟩
  have N3 := N2.next hB3
  have hl3 := N3.l2
  have hlb3 : w.heap.size + 1 < w3.heap.size := by have := N3.l1; omega
  have hlc3 : w.heap.size < w3.heap.size := by omega
  clear hB3
  have N3a0 : w3.cell? ⟨w.heap.size, 0, none⟩ = some (.string os) := N3.a 0
  have N3a1 : w3.cell? ⟨w.heap.size, 1, none⟩ = some (.string arch) := N3.a 1
  have N3a2 : w3.cell? ⟨w.heap.size, 2, none⟩ = some (.bool cgo) := N3.a 2
  have N3a3 : w3.cell? ⟨w.heap.size, 3, none⟩ = some (.int .i64 lv) := N3.a 3
  have N3a4 : w3.cell? ⟨w.heap.size, 4, none⟩ = some (.slice p n cp) := N3.a 4
  have N3b0 : w3.cell? ⟨w.heap.size + 1, 0, none⟩ = some (.string nm) := N3.b 0
  have N3b1 : w3.cell? ⟨w.heap.size + 1, 1, none⟩ = some (.slice q m cq) := N3.b 1
  have N3b2 : w3.cell? ⟨w.heap.size + 1, 2, none⟩ = some (.string bu) := N3.b 2
  have N3b3 : w3.cell? ⟨w.heap.size + 1, 3, none⟩ = some (.slice s k cs) := N3.b 3
  have N3b4 : w3.cell? ⟨w.heap.size + 1, 4, none⟩ = some (.int .i64 fl) := N3.b 4
  have N3b5 : w3.cell? ⟨w.heap.size + 1, 5, none⟩ = some (.int .i64 at_) := N3.b 5
  have N3c0 : w3.cell? ⟨w1.heap.size, 0, none⟩ = some (.bool true) := N3.c 0
  have N3c1 : w3.cell? ⟨w1.heap.size, 1, none⟩ = some (.bool t) := N3.c 1
  have N3c2 : w3.cell? ⟨w1.heap.size, 2, none⟩ = some (.string z) := N3.c 2
  have N3c3 : w3.cell? ⟨w1.heap.size, 3, none⟩ = some (.string y) := N3.c 3
  go_wp2_with fail
  go_ret2
  exact ⟨rfl, N3.bl⟩
set_option maxRecDepth 100000 in
set_option maxHeartbeats 2000000 in
theorem inq_EE_h (os arch nm bu z y file : ByteArray) (cgo t : Bool) (lv fl at_ : Int) (p q s : Option Addr) (n m k cp cq cs : Nat) (w : World) (hfl : (fl != 0) = true) (HO : Hid (∀ w1, Below w.heap.size w w1 → Calls Tryz.prog 17 #[.string file] w1 fun e w' => e = .returned (.agg #[.bool true, .bool t, .string z, .string y]) ∧ Below w1.heap.size w1 w')) (ho : z.toList.isEmpty = true) (hr : y.toList.isEmpty = true) (kn : Int) (HF : Hid (∀ w1, Calls Tryz.prog 18 #[.agg #[.bool true, .bool t, .string z, .string y]] w1 fun e w' => e = .returned (.int .i64 kn) ∧ Below w1.heap.size w1 w')) :
    Calls Tryz.prog 10 #[.agg #[.string os, .string arch, .bool cgo, .int .i64 lv, .slice p n cp], .string file, .agg #[.string nm, .slice q m cq, .string bu, .slice s k cs, .int .i64 fl, .int .i64 at_]] w fun e w' => e = .returned (.tuple #[(.int .i64 kn), (.int .i64 fl)]) ∧ Below w.heap.size w w' := by
  have M0 := mem2_new w #[.string os, .string arch, .bool cgo, .int .i64 lv, .slice p n cp] #[.string nm, .slice q m cq, .string bu, .slice s k cs, .int .i64 fl, .int .i64 at_] 24 33
  have M0b := M0.bl
  go_enter Tryz.func10, Tryz.ntmps10
  go_wp2_with fail
  refine (HO.out _ M0b).mono ?_
  rintro e w1 ⟨rfl, hB1⟩
  have M1 := M0.next hB1
  have hl1 := M1.l
  have hl0 : w.heap.size < w1.heap.size := by omega
  have M1a0 : w1.cell? ⟨w.heap.size, 0, none⟩ = some (.string os) := M1.a 0
  have M1a1 : w1.cell? ⟨w.heap.size, 1, none⟩ = some (.string arch) := M1.a 1
  have M1a2 : w1.cell? ⟨w.heap.size, 2, none⟩ = some (.bool cgo) := M1.a 2
  have M1a3 : w1.cell? ⟨w.heap.size, 3, none⟩ = some (.int .i64 lv) := M1.a 3
  have M1a4 : w1.cell? ⟨w.heap.size, 4, none⟩ = some (.slice p n cp) := M1.a 4
  have M1b0 : w1.cell? ⟨w.heap.size + 1, 0, none⟩ = some (.string nm) := M1.b 0
  have M1b1 : w1.cell? ⟨w.heap.size + 1, 1, none⟩ = some (.slice q m cq) := M1.b 1
  have M1b2 : w1.cell? ⟨w.heap.size + 1, 2, none⟩ = some (.string bu) := M1.b 2
  have M1b3 : w1.cell? ⟨w.heap.size + 1, 3, none⟩ = some (.slice s k cs) := M1.b 3
  have M1b4 : w1.cell? ⟨w.heap.size + 1, 4, none⟩ = some (.int .i64 fl) := M1.b 4
  have M1b5 : w1.cell? ⟨w.heap.size + 1, 5, none⟩ = some (.int .i64 at_) := M1.b 5
  have N := M1.more #[.bool true, .bool t, .string z, .string y] 44
  clear hB1 M0 M0b
  have Na0 : (w1.alloc (Obj.cells #[.bool true, .bool t, .string z, .string y] 44)).cell? ⟨w.heap.size, 0, none⟩ = some (.string os) := N.a 0
  have Na1 : (w1.alloc (Obj.cells #[.bool true, .bool t, .string z, .string y] 44)).cell? ⟨w.heap.size, 1, none⟩ = some (.string arch) := N.a 1
  have Na2 : (w1.alloc (Obj.cells #[.bool true, .bool t, .string z, .string y] 44)).cell? ⟨w.heap.size, 2, none⟩ = some (.bool cgo) := N.a 2
  have Na3 : (w1.alloc (Obj.cells #[.bool true, .bool t, .string z, .string y] 44)).cell? ⟨w.heap.size, 3, none⟩ = some (.int .i64 lv) := N.a 3
  have Na4 : (w1.alloc (Obj.cells #[.bool true, .bool t, .string z, .string y] 44)).cell? ⟨w.heap.size, 4, none⟩ = some (.slice p n cp) := N.a 4
  have Nb0 : (w1.alloc (Obj.cells #[.bool true, .bool t, .string z, .string y] 44)).cell? ⟨w.heap.size + 1, 0, none⟩ = some (.string nm) := N.b 0
  have Nb1 : (w1.alloc (Obj.cells #[.bool true, .bool t, .string z, .string y] 44)).cell? ⟨w.heap.size + 1, 1, none⟩ = some (.slice q m cq) := N.b 1
  have Nb2 : (w1.alloc (Obj.cells #[.bool true, .bool t, .string z, .string y] 44)).cell? ⟨w.heap.size + 1, 2, none⟩ = some (.string bu) := N.b 2
  have Nb3 : (w1.alloc (Obj.cells #[.bool true, .bool t, .string z, .string y] 44)).cell? ⟨w.heap.size + 1, 3, none⟩ = some (.slice s k cs) := N.b 3
  have Nb4 : (w1.alloc (Obj.cells #[.bool true, .bool t, .string z, .string y] 44)).cell? ⟨w.heap.size + 1, 4, none⟩ = some (.int .i64 fl) := N.b 4
  have Nb5 : (w1.alloc (Obj.cells #[.bool true, .bool t, .string z, .string y] 44)).cell? ⟨w.heap.size + 1, 5, none⟩ = some (.int .i64 at_) := N.b 5
  go_wp2_with fail
  obtain ⟨W, hW⟩ : ∃ W, W = (w1.alloc (Obj.cells #[.bool true, .bool t, .string z, .string y] 44)) := ⟨_, rfl⟩
  rw [← hW] at N
  rw [← hW]
  clear hW
  have hl1 := N.l1
  have hl2 := N.l2
  have HL := Lib.hid (fun v1 (h1 : Below W.heap.size W v1) => (by have q := N.next h1; have q0 := q.c 0; have q1 := q.c 1; have q2 := q.c 2; have q3 := q.c 3; simp at q0 q1 q2 q3; simp [go_sem, q0, q1, q2, q3] : (loadVar 44 ⟨w1.heap.size, 0, none⟩).run Tryz.prog v1 = .ok (.agg #[.bool true, .bool t, .string z, .string y]) v1))
  have HS := Lib.hid (fun v1 (h1 : Below W.heap.size W v1) => (by have q := N.next h1; have q0 := q.b 4; simp at q0; simp [go_sem, q0] : (loadVar 3 ⟨w.heap.size + 1, 4, none⟩).run Tryz.prog v1 = .ok (.int .i64 fl) v1))
  have HFR := Lib.hid (fun v1 (h1 : Below W.heap.size W v1) => (HF.out v1).mono (fun e v2 hh => (⟨hh.1, h1.trans (hh.2.mono h1.size)⟩ : e = .returned (.int .i64 kn) ∧ Below W.heap.size W v2)))
  have Hb := Lib.hid N.bl
  refine wp_region_class (Below W.heap.size W) (by kernel_rfl) (by kernel_rfl) (Below.refl _ _).drew ?_
  refine wpQuiet_load_at rfl 44 (.tmp 8) rfl ⟨w1.heap.size, 0, none⟩ rfl (.agg #[.bool true, .bool t, .string z, .string y]) HL.out ?_
  simp only [Act.put, List.setIfInBounds_toArray, List.set_cons_succ, List.set_cons_zero]
  repeat (go_big_quiet_step (first | (intro hh; with_reducible exact HFR.out _ hh) | (intro _; rfl)))
  refine wpQuiet_load_at rfl 3 (.tmp 45) rfl ⟨w.heap.size + 1, 4, none⟩ rfl (.int .i64 fl) HS.out ?_
  simp only [Act.put, List.setIfInBounds_toArray, List.set_cons_succ, List.set_cons_zero]
  repeat (go_big_quiet_step (first | (intro hh; with_reducible exact HFR.out _ hh) | (intro _; rfl)))
  refine wpQuiet_nil ?_
  intro wq hBq
  have hb7 := Hb.out.trans (hBq.mono Hb.out.size)
  clear hBq
  go_wp2_with fail
  go_ret2
  exact ⟨rfl, hb7⟩
set_option maxRecDepth 100000 in
set_option maxHeartbeats 2000000 in
theorem inq_EY_h (os arch nm bu z y file : ByteArray) (cgo t : Bool) (lv fl at_ : Int) (p q s : Option Addr) (n m k cp cq cs : Nat) (w : World) (hfl : (fl != 0) = true) (HO : Hid (∀ w1, Below w.heap.size w w1 → Calls Tryz.prog 17 #[.string file] w1 fun e w' => e = .returned (.agg #[.bool true, .bool t, .string z, .string y]) ∧ Below w1.heap.size w1 w')) (ho : z.toList.isEmpty = true) (hR : Hid (∀ w1, Below w.heap.size w w1 → Calls Tryz.prog 8 #[.agg #[.string os, .string arch, .bool cgo, .int .i64 lv, .slice p n cp], .string y] w1 fun e w' => e = .returned (.bool true) ∧ Below w1.heap.size w1 w')) (hr : y.toList.isEmpty = false) (kn : Int) (HF : Hid (∀ w1, Calls Tryz.prog 18 #[.agg #[.bool true, .bool t, .string z, .string y]] w1 fun e w' => e = .returned (.int .i64 kn) ∧ Below w1.heap.size w1 w')) :
    Calls Tryz.prog 10 #[.agg #[.string os, .string arch, .bool cgo, .int .i64 lv, .slice p n cp], .string file, .agg #[.string nm, .slice q m cq, .string bu, .slice s k cs, .int .i64 fl, .int .i64 at_]] w fun e w' => e = .returned (.tuple #[(.int .i64 kn), (.int .i64 fl)]) ∧ Below w.heap.size w w' := by
  have M0 := mem2_new w #[.string os, .string arch, .bool cgo, .int .i64 lv, .slice p n cp] #[.string nm, .slice q m cq, .string bu, .slice s k cs, .int .i64 fl, .int .i64 at_] 24 33
  have M0b := M0.bl
  go_enter Tryz.func10, Tryz.ntmps10
  go_wp2_with fail
  refine (HO.out _ M0b).mono ?_
  rintro e w1 ⟨rfl, hB1⟩
  have M1 := M0.next hB1
  have hl1 := M1.l
  have hl0 : w.heap.size < w1.heap.size := by omega
  have M1a0 : w1.cell? ⟨w.heap.size, 0, none⟩ = some (.string os) := M1.a 0
  have M1a1 : w1.cell? ⟨w.heap.size, 1, none⟩ = some (.string arch) := M1.a 1
  have M1a2 : w1.cell? ⟨w.heap.size, 2, none⟩ = some (.bool cgo) := M1.a 2
  have M1a3 : w1.cell? ⟨w.heap.size, 3, none⟩ = some (.int .i64 lv) := M1.a 3
  have M1a4 : w1.cell? ⟨w.heap.size, 4, none⟩ = some (.slice p n cp) := M1.a 4
  have M1b0 : w1.cell? ⟨w.heap.size + 1, 0, none⟩ = some (.string nm) := M1.b 0
  have M1b1 : w1.cell? ⟨w.heap.size + 1, 1, none⟩ = some (.slice q m cq) := M1.b 1
  have M1b2 : w1.cell? ⟨w.heap.size + 1, 2, none⟩ = some (.string bu) := M1.b 2
  have M1b3 : w1.cell? ⟨w.heap.size + 1, 3, none⟩ = some (.slice s k cs) := M1.b 3
  have M1b4 : w1.cell? ⟨w.heap.size + 1, 4, none⟩ = some (.int .i64 fl) := M1.b 4
  have M1b5 : w1.cell? ⟨w.heap.size + 1, 5, none⟩ = some (.int .i64 at_) := M1.b 5
  have N := M1.more #[.bool true, .bool t, .string z, .string y] 44
  clear hB1 M0 M0b
  have Na0 : (w1.alloc (Obj.cells #[.bool true, .bool t, .string z, .string y] 44)).cell? ⟨w.heap.size, 0, none⟩ = some (.string os) := N.a 0
  have Na1 : (w1.alloc (Obj.cells #[.bool true, .bool t, .string z, .string y] 44)).cell? ⟨w.heap.size, 1, none⟩ = some (.string arch) := N.a 1
  have Na2 : (w1.alloc (Obj.cells #[.bool true, .bool t, .string z, .string y] 44)).cell? ⟨w.heap.size, 2, none⟩ = some (.bool cgo) := N.a 2
  have Na3 : (w1.alloc (Obj.cells #[.bool true, .bool t, .string z, .string y] 44)).cell? ⟨w.heap.size, 3, none⟩ = some (.int .i64 lv) := N.a 3
  have Na4 : (w1.alloc (Obj.cells #[.bool true, .bool t, .string z, .string y] 44)).cell? ⟨w.heap.size, 4, none⟩ = some (.slice p n cp) := N.a 4
  have Nb0 : (w1.alloc (Obj.cells #[.bool true, .bool t, .string z, .string y] 44)).cell? ⟨w.heap.size + 1, 0, none⟩ = some (.string nm) := N.b 0
  have Nb1 : (w1.alloc (Obj.cells #[.bool true, .bool t, .string z, .string y] 44)).cell? ⟨w.heap.size + 1, 1, none⟩ = some (.slice q m cq) := N.b 1
  have Nb2 : (w1.alloc (Obj.cells #[.bool true, .bool t, .string z, .string y] 44)).cell? ⟨w.heap.size + 1, 2, none⟩ = some (.string bu) := N.b 2
  have Nb3 : (w1.alloc (Obj.cells #[.bool true, .bool t, .string z, .string y] 44)).cell? ⟨w.heap.size + 1, 3, none⟩ = some (.slice s k cs) := N.b 3
  have Nb4 : (w1.alloc (Obj.cells #[.bool true, .bool t, .string z, .string y] 44)).cell? ⟨w.heap.size + 1, 4, none⟩ = some (.int .i64 fl) := N.b 4
  have Nb5 : (w1.alloc (Obj.cells #[.bool true, .bool t, .string z, .string y] 44)).cell? ⟨w.heap.size + 1, 5, none⟩ = some (.int .i64 at_) := N.b 5
  go_wp2_with fail
  refine (hR.out _ N.bl).mono ?_
  rintro e w2 ⟨rfl, hB2⟩
  have N2 := N.next hB2
  have hl2 := N2.l2
  have hlb2 : w.heap.size + 1 < w2.heap.size := by have := N2.l1; omega
  have hlc2 : w.heap.size < w2.heap.size := by omega
  clear hB2
  have N2a0 : w2.cell? ⟨w.heap.size, 0, none⟩ = some (.string os) := N2.a 0
  have N2a1 : w2.cell? ⟨w.heap.size, 1, none⟩ = some (.string arch) := N2.a 1
  have N2a2 : w2.cell? ⟨w.heap.size, 2, none⟩ = some (.bool cgo) := N2.a 2
  have N2a3 : w2.cell? ⟨w.heap.size, 3, none⟩ = some (.int .i64 lv) := N2.a 3
  have N2a4 : w2.cell? ⟨w.heap.size, 4, none⟩ = some (.slice p n cp) := N2.a 4
  have N2b0 : w2.cell? ⟨w.heap.size + 1, 0, none⟩ = some (.string nm) := N2.b 0
  have N2b1 : w2.cell? ⟨w.heap.size + 1, 1, none⟩ = some (.slice q m cq) := N2.b 1
  have N2b2 : w2.cell? ⟨w.heap.size + 1, 2, none⟩ = some (.string bu) := N2.b 2
  have N2b3 : w2.cell? ⟨w.heap.size + 1, 3, none⟩ = some (.slice s k cs) := N2.b 3
  have N2b4 : w2.cell? ⟨w.heap.size + 1, 4, none⟩ = some (.int .i64 fl) := N2.b 4
  have N2b5 : w2.cell? ⟨w.heap.size + 1, 5, none⟩ = some (.int .i64 at_) := N2.b 5
  have N2c0 : w2.cell? ⟨w1.heap.size, 0, none⟩ = some (.bool true) := N2.c 0
  have N2c1 : w2.cell? ⟨w1.heap.size, 1, none⟩ = some (.bool t) := N2.c 1
  have N2c2 : w2.cell? ⟨w1.heap.size, 2, none⟩ = some (.string z) := N2.c 2
  have N2c3 : w2.cell? ⟨w1.heap.size, 3, none⟩ = some (.string y) := N2.c 3
  go_wp2_with fail
  obtain ⟨W, hW⟩ : ∃ W, W = w2 := ⟨_, rfl⟩
  rw [← hW] at N2
  rw [← hW]
  clear hW
  have hl1 := N2.l1
  have hl2 := N2.l2
  have HL := Lib.hid (fun v1 (h1 : Below W.heap.size W v1) => (by have q := N2.next h1; have q0 := q.c 0; have q1 := q.c 1; have q2 := q.c 2; have q3 := q.c 3; simp at q0 q1 q2 q3; simp [go_sem, q0, q1, q2, q3] : (loadVar 44 ⟨w1.heap.size, 0, none⟩).run Tryz.prog v1 = .ok (.agg #[.bool true, .bool t, .string z, .string y]) v1))
  have HS := Lib.hid (fun v1 (h1 : Below W.heap.size W v1) => (by have q := N2.next h1; have q0 := q.b 4; simp at q0; simp [go_sem, q0] : (loadVar 3 ⟨w.heap.size + 1, 4, none⟩).run Tryz.prog v1 = .ok (.int .i64 fl) v1))
  have HFR := Lib.hid (fun v1 (h1 : Below W.heap.size W v1) => (HF.out v1).mono (fun e v2 hh => (⟨hh.1, h1.trans (hh.2.mono h1.size)⟩ : e = .returned (.int .i64 kn) ∧ Below W.heap.size W v2)))
  have Hb := Lib.hid N2.bl
  refine wp_region_class (Below W.heap.size W) (by kernel_rfl) (by kernel_rfl) (Below.refl _ _).drew ?_
  refine wpQuiet_load_at rfl 44 (.tmp 8) rfl ⟨w1.heap.size, 0, none⟩ rfl (.agg #[.bool true, .bool t, .string z, .string y]) HL.out ?_
  simp only [Act.put, List.setIfInBounds_toArray, List.set_cons_succ, List.set_cons_zero]
  repeat (go_big_quiet_step (first | (intro hh; with_reducible exact HFR.out _ hh) | (intro _; rfl)))
  refine wpQuiet_load_at rfl 3 (.tmp 45) rfl ⟨w.heap.size + 1, 4, none⟩ rfl (.int .i64 fl) HS.out ?_
  simp only [Act.put, List.setIfInBounds_toArray, List.set_cons_succ, List.set_cons_zero]
  repeat (go_big_quiet_step (first | (intro hh; with_reducible exact HFR.out _ hh) | (intro _; rfl)))
  refine wpQuiet_nil ?_
  intro wq hBq
  have hb7 := Hb.out.trans (hBq.mono Hb.out.size)
  clear hBq
  go_wp2_with fail
  go_ret2
  exact ⟨rfl, hb7⟩
set_option maxRecDepth 100000 in
set_option maxHeartbeats 2000000 in
theorem inq_YE_h (os arch nm bu z y file : ByteArray) (cgo t : Bool) (lv fl at_ : Int) (p q s : Option Addr) (n m k cp cq cs : Nat) (w : World) (hfl : (fl != 0) = true) (HO : Hid (∀ w1, Below w.heap.size w w1 → Calls Tryz.prog 17 #[.string file] w1 fun e w' => e = .returned (.agg #[.bool true, .bool t, .string z, .string y]) ∧ Below w1.heap.size w1 w')) (hO : Hid (∀ w1, Below w.heap.size w w1 → Calls Tryz.prog 8 #[.agg #[.string os, .string arch, .bool cgo, .int .i64 lv, .slice p n cp], .string z] w1 fun e w' => e = .returned (.bool true) ∧ Below w1.heap.size w1 w')) (ho : z.toList.isEmpty = false) (hr : y.toList.isEmpty = true) (kn : Int) (HF : Hid (∀ w1, Calls Tryz.prog 18 #[.agg #[.bool true, .bool t, .string z, .string y]] w1 fun e w' => e = .returned (.int .i64 kn) ∧ Below w1.heap.size w1 w')) :
    Calls Tryz.prog 10 #[.agg #[.string os, .string arch, .bool cgo, .int .i64 lv, .slice p n cp], .string file, .agg #[.string nm, .slice q m cq, .string bu, .slice s k cs, .int .i64 fl, .int .i64 at_]] w fun e w' => e = .returned (.tuple #[(.int .i64 kn), (.int .i64 fl)]) ∧ Below w.heap.size w w' := by
  have M0 := mem2_new w #[.string os, .string arch, .bool cgo, .int .i64 lv, .slice p n cp] #[.string nm, .slice q m cq, .string bu, .slice s k cs, .int .i64 fl, .int .i64 at_] 24 33
  have M0b := M0.bl
  go_enter Tryz.func10, Tryz.ntmps10
  go_wp2_with fail
  refine (HO.out _ M0b).mono ?_
  rintro e w1 ⟨rfl, hB1⟩
  have M1 := M0.next hB1
  have hl1 := M1.l
  have hl0 : w.heap.size < w1.heap.size := by omega
  have M1a0 : w1.cell? ⟨w.heap.size, 0, none⟩ = some (.string os) := M1.a 0
  have M1a1 : w1.cell? ⟨w.heap.size, 1, none⟩ = some (.string arch) := M1.a 1
  have M1a2 : w1.cell? ⟨w.heap.size, 2, none⟩ = some (.bool cgo) := M1.a 2
  have M1a3 : w1.cell? ⟨w.heap.size, 3, none⟩ = some (.int .i64 lv) := M1.a 3
  have M1a4 : w1.cell? ⟨w.heap.size, 4, none⟩ = some (.slice p n cp) := M1.a 4
  have M1b0 : w1.cell? ⟨w.heap.size + 1, 0, none⟩ = some (.string nm) := M1.b 0
  have M1b1 : w1.cell? ⟨w.heap.size + 1, 1, none⟩ = some (.slice q m cq) := M1.b 1
  have M1b2 : w1.cell? ⟨w.heap.size + 1, 2, none⟩ = some (.string bu) := M1.b 2
  have M1b3 : w1.cell? ⟨w.heap.size + 1, 3, none⟩ = some (.slice s k cs) := M1.b 3
  have M1b4 : w1.cell? ⟨w.heap.size + 1, 4, none⟩ = some (.int .i64 fl) := M1.b 4
  have M1b5 : w1.cell? ⟨w.heap.size + 1, 5, none⟩ = some (.int .i64 at_) := M1.b 5
  have N := M1.more #[.bool true, .bool t, .string z, .string y] 44
  clear hB1 M0 M0b
  have Na0 : (w1.alloc (Obj.cells #[.bool true, .bool t, .string z, .string y] 44)).cell? ⟨w.heap.size, 0, none⟩ = some (.string os) := N.a 0
  have Na1 : (w1.alloc (Obj.cells #[.bool true, .bool t, .string z, .string y] 44)).cell? ⟨w.heap.size, 1, none⟩ = some (.string arch) := N.a 1
  have Na2 : (w1.alloc (Obj.cells #[.bool true, .bool t, .string z, .string y] 44)).cell? ⟨w.heap.size, 2, none⟩ = some (.bool cgo) := N.a 2
  have Na3 : (w1.alloc (Obj.cells #[.bool true, .bool t, .string z, .string y] 44)).cell? ⟨w.heap.size, 3, none⟩ = some (.int .i64 lv) := N.a 3
  have Na4 : (w1.alloc (Obj.cells #[.bool true, .bool t, .string z, .string y] 44)).cell? ⟨w.heap.size, 4, none⟩ = some (.slice p n cp) := N.a 4
  have Nb0 : (w1.alloc (Obj.cells #[.bool true, .bool t, .string z, .string y] 44)).cell? ⟨w.heap.size + 1, 0, none⟩ = some (.string nm) := N.b 0
  have Nb1 : (w1.alloc (Obj.cells #[.bool true, .bool t, .string z, .string y] 44)).cell? ⟨w.heap.size + 1, 1, none⟩ = some (.slice q m cq) := N.b 1
  have Nb2 : (w1.alloc (Obj.cells #[.bool true, .bool t, .string z, .string y] 44)).cell? ⟨w.heap.size + 1, 2, none⟩ = some (.string bu) := N.b 2
  have Nb3 : (w1.alloc (Obj.cells #[.bool true, .bool t, .string z, .string y] 44)).cell? ⟨w.heap.size + 1, 3, none⟩ = some (.slice s k cs) := N.b 3
  have Nb4 : (w1.alloc (Obj.cells #[.bool true, .bool t, .string z, .string y] 44)).cell? ⟨w.heap.size + 1, 4, none⟩ = some (.int .i64 fl) := N.b 4
  have Nb5 : (w1.alloc (Obj.cells #[.bool true, .bool t, .string z, .string y] 44)).cell? ⟨w.heap.size + 1, 5, none⟩ = some (.int .i64 at_) := N.b 5
  go_wp2_with fail
  refine (hO.out _ N.bl).mono ?_
  rintro e w2 ⟨rfl, hB2⟩
  have N2 := N.next hB2
  have hl2 := N2.l2
  have hlb2 : w.heap.size + 1 < w2.heap.size := by have := N2.l1; omega
  have hlc2 : w.heap.size < w2.heap.size := by omega
  clear hB2
  have N2a0 : w2.cell? ⟨w.heap.size, 0, none⟩ = some (.string os) := N2.a 0
  have N2a1 : w2.cell? ⟨w.heap.size, 1, none⟩ = some (.string arch) := N2.a 1
  have N2a2 : w2.cell? ⟨w.heap.size, 2, none⟩ = some (.bool cgo) := N2.a 2
  have N2a3 : w2.cell? ⟨w.heap.size, 3, none⟩ = some (.int .i64 lv) := N2.a 3
  have N2a4 : w2.cell? ⟨w.heap.size, 4, none⟩ = some (.slice p n cp) := N2.a 4
  have N2b0 : w2.cell? ⟨w.heap.size + 1, 0, none⟩ = some (.string nm) := N2.b 0
  have N2b1 : w2.cell? ⟨w.heap.size + 1, 1, none⟩ = some (.slice q m cq) := N2.b 1
  have N2b2 : w2.cell? ⟨w.heap.size + 1, 2, none⟩ = some (.string bu) := N2.b 2
  have N2b3 : w2.cell? ⟨w.heap.size + 1, 3, none⟩ = some (.slice s k cs) := N2.b 3
  have N2b4 : w2.cell? ⟨w.heap.size + 1, 4, none⟩ = some (.int .i64 fl) := N2.b 4
  have N2b5 : w2.cell? ⟨w.heap.size + 1, 5, none⟩ = some (.int .i64 at_) := N2.b 5
  have N2c0 : w2.cell? ⟨w1.heap.size, 0, none⟩ = some (.bool true) := N2.c 0
  have N2c1 : w2.cell? ⟨w1.heap.size, 1, none⟩ = some (.bool t) := N2.c 1
  have N2c2 : w2.cell? ⟨w1.heap.size, 2, none⟩ = some (.string z) := N2.c 2
  have N2c3 : w2.cell? ⟨w1.heap.size, 3, none⟩ = some (.string y) := N2.c 3
  go_wp2_with fail
  obtain ⟨W, hW⟩ : ∃ W, W = w2 := ⟨_, rfl⟩
  rw [← hW] at N2
  rw [← hW]
  clear hW
  have hl1 := N2.l1
  have hl2 := N2.l2
  have HL := Lib.hid (fun v1 (h1 : Below W.heap.size W v1) => (by have q := N2.next h1; have q0 := q.c 0; have q1 := q.c 1; have q2 := q.c 2; have q3 := q.c 3; simp at q0 q1 q2 q3; simp [go_sem, q0, q1, q2, q3] : (loadVar 44 ⟨w1.heap.size, 0, none⟩).run Tryz.prog v1 = .ok (.agg #[.bool true, .bool t, .string z, .string y]) v1))
  have HS := Lib.hid (fun v1 (h1 : Below W.heap.size W v1) => (by have q := N2.next h1; have q0 := q.b 4; simp at q0; simp [go_sem, q0] : (loadVar 3 ⟨w.heap.size + 1, 4, none⟩).run Tryz.prog v1 = .ok (.int .i64 fl) v1))
  have HFR := Lib.hid (fun v1 (h1 : Below W.heap.size W v1) => (HF.out v1).mono (fun e v2 hh => (⟨hh.1, h1.trans (hh.2.mono h1.size)⟩ : e = .returned (.int .i64 kn) ∧ Below W.heap.size W v2)))
  have Hb := Lib.hid N2.bl
  refine wp_region_class (Below W.heap.size W) (by kernel_rfl) (by kernel_rfl) (Below.refl _ _).drew ?_
  refine wpQuiet_load_at rfl 44 (.tmp 8) rfl ⟨w1.heap.size, 0, none⟩ rfl (.agg #[.bool true, .bool t, .string z, .string y]) HL.out ?_
  simp only [Act.put, List.setIfInBounds_toArray, List.set_cons_succ, List.set_cons_zero]
  repeat (go_big_quiet_step (first | (intro hh; with_reducible exact HFR.out _ hh) | (intro _; rfl)))
  refine wpQuiet_load_at rfl 3 (.tmp 45) rfl ⟨w.heap.size + 1, 4, none⟩ rfl (.int .i64 fl) HS.out ?_
  simp only [Act.put, List.setIfInBounds_toArray, List.set_cons_succ, List.set_cons_zero]
  repeat (go_big_quiet_step (first | (intro hh; with_reducible exact HFR.out _ hh) | (intro _; rfl)))
  refine wpQuiet_nil ?_
  intro wq hBq
  have hb7 := Hb.out.trans (hBq.mono Hb.out.size)
  clear hBq
  go_wp2_with fail
  go_ret2
  exact ⟨rfl, hb7⟩
set_option maxRecDepth 100000 in
set_option maxHeartbeats 2000000 in
theorem inq_YY_h (os arch nm bu z y file : ByteArray) (cgo t : Bool) (lv fl at_ : Int) (p q s : Option Addr) (n m k cp cq cs : Nat) (w : World) (hfl : (fl != 0) = true) (HO : Hid (∀ w1, Below w.heap.size w w1 → Calls Tryz.prog 17 #[.string file] w1 fun e w' => e = .returned (.agg #[.bool true, .bool t, .string z, .string y]) ∧ Below w1.heap.size w1 w')) (hO : Hid (∀ w1, Below w.heap.size w w1 → Calls Tryz.prog 8 #[.agg #[.string os, .string arch, .bool cgo, .int .i64 lv, .slice p n cp], .string z] w1 fun e w' => e = .returned (.bool true) ∧ Below w1.heap.size w1 w')) (ho : z.toList.isEmpty = false) (hR : Hid (∀ w1, Below w.heap.size w w1 → Calls Tryz.prog 8 #[.agg #[.string os, .string arch, .bool cgo, .int .i64 lv, .slice p n cp], .string y] w1 fun e w' => e = .returned (.bool true) ∧ Below w1.heap.size w1 w')) (hr : y.toList.isEmpty = false) (kn : Int) (HF : Hid (∀ w1, Calls Tryz.prog 18 #[.agg #[.bool true, .bool t, .string z, .string y]] w1 fun e w' => e = .returned (.int .i64 kn) ∧ Below w1.heap.size w1 w')) :
    Calls Tryz.prog 10 #[.agg #[.string os, .string arch, .bool cgo, .int .i64 lv, .slice p n cp], .string file, .agg #[.string nm, .slice q m cq, .string bu, .slice s k cs, .int .i64 fl, .int .i64 at_]] w fun e w' => e = .returned (.tuple #[(.int .i64 kn), (.int .i64 fl)]) ∧ Below w.heap.size w w' := by
  have M0 := mem2_new w #[.string os, .string arch, .bool cgo, .int .i64 lv, .slice p n cp] #[.string nm, .slice q m cq, .string bu, .slice s k cs, .int .i64 fl, .int .i64 at_] 24 33
  have M0b := M0.bl
  go_enter Tryz.func10, Tryz.ntmps10
  go_wp2_with fail
  refine (HO.out _ M0b).mono ?_
  rintro e w1 ⟨rfl, hB1⟩
  have M1 := M0.next hB1
  have hl1 := M1.l
  have hl0 : w.heap.size < w1.heap.size := by omega
  have M1a0 : w1.cell? ⟨w.heap.size, 0, none⟩ = some (.string os) := M1.a 0
  have M1a1 : w1.cell? ⟨w.heap.size, 1, none⟩ = some (.string arch) := M1.a 1
  have M1a2 : w1.cell? ⟨w.heap.size, 2, none⟩ = some (.bool cgo) := M1.a 2
  have M1a3 : w1.cell? ⟨w.heap.size, 3, none⟩ = some (.int .i64 lv) := M1.a 3
  have M1a4 : w1.cell? ⟨w.heap.size, 4, none⟩ = some (.slice p n cp) := M1.a 4
  have M1b0 : w1.cell? ⟨w.heap.size + 1, 0, none⟩ = some (.string nm) := M1.b 0
  have M1b1 : w1.cell? ⟨w.heap.size + 1, 1, none⟩ = some (.slice q m cq) := M1.b 1
  have M1b2 : w1.cell? ⟨w.heap.size + 1, 2, none⟩ = some (.string bu) := M1.b 2
  have M1b3 : w1.cell? ⟨w.heap.size + 1, 3, none⟩ = some (.slice s k cs) := M1.b 3
  have M1b4 : w1.cell? ⟨w.heap.size + 1, 4, none⟩ = some (.int .i64 fl) := M1.b 4
  have M1b5 : w1.cell? ⟨w.heap.size + 1, 5, none⟩ = some (.int .i64 at_) := M1.b 5
  have N := M1.more #[.bool true, .bool t, .string z, .string y] 44
  clear hB1 M0 M0b
  have Na0 : (w1.alloc (Obj.cells #[.bool true, .bool t, .string z, .string y] 44)).cell? ⟨w.heap.size, 0, none⟩ = some (.string os) := N.a 0
  have Na1 : (w1.alloc (Obj.cells #[.bool true, .bool t, .string z, .string y] 44)).cell? ⟨w.heap.size, 1, none⟩ = some (.string arch) := N.a 1
  have Na2 : (w1.alloc (Obj.cells #[.bool true, .bool t, .string z, .string y] 44)).cell? ⟨w.heap.size, 2, none⟩ = some (.bool cgo) := N.a 2
  have Na3 : (w1.alloc (Obj.cells #[.bool true, .bool t, .string z, .string y] 44)).cell? ⟨w.heap.size, 3, none⟩ = some (.int .i64 lv) := N.a 3
  have Na4 : (w1.alloc (Obj.cells #[.bool true, .bool t, .string z, .string y] 44)).cell? ⟨w.heap.size, 4, none⟩ = some (.slice p n cp) := N.a 4
  have Nb0 : (w1.alloc (Obj.cells #[.bool true, .bool t, .string z, .string y] 44)).cell? ⟨w.heap.size + 1, 0, none⟩ = some (.string nm) := N.b 0
  have Nb1 : (w1.alloc (Obj.cells #[.bool true, .bool t, .string z, .string y] 44)).cell? ⟨w.heap.size + 1, 1, none⟩ = some (.slice q m cq) := N.b 1
  have Nb2 : (w1.alloc (Obj.cells #[.bool true, .bool t, .string z, .string y] 44)).cell? ⟨w.heap.size + 1, 2, none⟩ = some (.string bu) := N.b 2
  have Nb3 : (w1.alloc (Obj.cells #[.bool true, .bool t, .string z, .string y] 44)).cell? ⟨w.heap.size + 1, 3, none⟩ = some (.slice s k cs) := N.b 3
  have Nb4 : (w1.alloc (Obj.cells #[.bool true, .bool t, .string z, .string y] 44)).cell? ⟨w.heap.size + 1, 4, none⟩ = some (.int .i64 fl) := N.b 4
  have Nb5 : (w1.alloc (Obj.cells #[.bool true, .bool t, .string z, .string y] 44)).cell? ⟨w.heap.size + 1, 5, none⟩ = some (.int .i64 at_) := N.b 5
  go_wp2_with fail
  refine (hO.out _ N.bl).mono ?_
  rintro e w2 ⟨rfl, hB2⟩
  have N2 := N.next hB2
  have hl2 := N2.l2
  have hlb2 : w.heap.size + 1 < w2.heap.size := by have := N2.l1; omega
  have hlc2 : w.heap.size < w2.heap.size := by omega
  clear hB2
  have N2a0 : w2.cell? ⟨w.heap.size, 0, none⟩ = some (.string os) := N2.a 0
  have N2a1 : w2.cell? ⟨w.heap.size, 1, none⟩ = some (.string arch) := N2.a 1
  have N2a2 : w2.cell? ⟨w.heap.size, 2, none⟩ = some (.bool cgo) := N2.a 2
  have N2a3 : w2.cell? ⟨w.heap.size, 3, none⟩ = some (.int .i64 lv) := N2.a 3
  have N2a4 : w2.cell? ⟨w.heap.size, 4, none⟩ = some (.slice p n cp) := N2.a 4
  have N2b0 : w2.cell? ⟨w.heap.size + 1, 0, none⟩ = some (.string nm) := N2.b 0
  have N2b1 : w2.cell? ⟨w.heap.size + 1, 1, none⟩ = some (.slice q m cq) := N2.b 1
  have N2b2 : w2.cell? ⟨w.heap.size + 1, 2, none⟩ = some (.string bu) := N2.b 2
  have N2b3 : w2.cell? ⟨w.heap.size + 1, 3, none⟩ = some (.slice s k cs) := N2.b 3
  have N2b4 : w2.cell? ⟨w.heap.size + 1, 4, none⟩ = some (.int .i64 fl) := N2.b 4
  have N2b5 : w2.cell? ⟨w.heap.size + 1, 5, none⟩ = some (.int .i64 at_) := N2.b 5
  have N2c0 : w2.cell? ⟨w1.heap.size, 0, none⟩ = some (.bool true) := N2.c 0
  have N2c1 : w2.cell? ⟨w1.heap.size, 1, none⟩ = some (.bool t) := N2.c 1
  have N2c2 : w2.cell? ⟨w1.heap.size, 2, none⟩ = some (.string z) := N2.c 2
  have N2c3 : w2.cell? ⟨w1.heap.size, 3, none⟩ = some (.string y) := N2.c 3
  go_wp2_with fail
  refine (hR.out _ N2.bl).mono ?_
  rintro e w3 ⟨rfl, hB3⟩
  have N3 := N2.next hB3
  have hl3 := N3.l2
  have hlb3 : w.heap.size + 1 < w3.heap.size := by have := N3.l1; omega
  have hlc3 : w.heap.size < w3.heap.size := by omega
  clear hB3
  have N3a0 : w3.cell? ⟨w.heap.size, 0, none⟩ = some (.string os) := N3.a 0
  have N3a1 : w3.cell? ⟨w.heap.size, 1, none⟩ = some (.string arch) := N3.a 1
  have N3a2 : w3.cell? ⟨w.heap.size, 2, none⟩ = some (.bool cgo) := N3.a 2
  have N3a3 : w3.cell? ⟨w.heap.size, 3, none⟩ = some (.int .i64 lv) := N3.a 3
  have N3a4 : w3.cell? ⟨w.heap.size, 4, none⟩ = some (.slice p n cp) := N3.a 4
  have N3b0 : w3.cell? ⟨w.heap.size + 1, 0, none⟩ = some (.string nm) := N3.b 0
  have N3b1 : w3.cell? ⟨w.heap.size + 1, 1, none⟩ = some (.slice q m cq) := N3.b 1
  have N3b2 : w3.cell? ⟨w.heap.size + 1, 2, none⟩ = some (.string bu) := N3.b 2
  have N3b3 : w3.cell? ⟨w.heap.size + 1, 3, none⟩ = some (.slice s k cs) := N3.b 3
  have N3b4 : w3.cell? ⟨w.heap.size + 1, 4, none⟩ = some (.int .i64 fl) := N3.b 4
  have N3b5 : w3.cell? ⟨w.heap.size + 1, 5, none⟩ = some (.int .i64 at_) := N3.b 5
  have N3c0 : w3.cell? ⟨w1.heap.size, 0, none⟩ = some (.bool true) := N3.c 0
  have N3c1 : w3.cell? ⟨w1.heap.size, 1, none⟩ = some (.bool t) := N3.c 1
  have N3c2 : w3.cell? ⟨w1.heap.size, 2, none⟩ = some (.string z) := N3.c 2
  have N3c3 : w3.cell? ⟨w1.heap.size, 3, none⟩ = some (.string y) := N3.c 3
  go_wp2_with fail
  obtain ⟨W, hW⟩ : ∃ W, W = w3 := ⟨_, rfl⟩
  rw [← hW] at N3
  rw [← hW]
  clear hW
  have hl1 := N3.l1
  have hl2 := N3.l2
  have HL := Lib.hid (fun v1 (h1 : Below W.heap.size W v1) => (by have q := N3.next h1; have q0 := q.c 0; have q1 := q.c 1; have q2 := q.c 2; have q3 := q.c 3; simp at q0 q1 q2 q3; simp [go_sem, q0, q1, q2, q3] : (loadVar 44 ⟨w1.heap.size, 0, none⟩).run Tryz.prog v1 = .ok (.agg #[.bool true, .bool t, .string z, .string y]) v1))
  have HS := Lib.hid (fun v1 (h1 : Below W.heap.size W v1) => (by have q := N3.next h1; have q0 := q.b 4; simp at q0; simp [go_sem, q0] : (loadVar 3 ⟨w.heap.size + 1, 4, none⟩).run Tryz.prog v1 = .ok (.int .i64 fl) v1))
  have HFR := Lib.hid (fun v1 (h1 : Below W.heap.size W v1) => (HF.out v1).mono (fun e v2 hh => (⟨hh.1, h1.trans (hh.2.mono h1.size)⟩ : e = .returned (.int .i64 kn) ∧ Below W.heap.size W v2)))
  have Hb := Lib.hid N3.bl
  refine wp_region_class (Below W.heap.size W) (by kernel_rfl) (by kernel_rfl) (Below.refl _ _).drew ?_
  refine wpQuiet_load_at rfl 44 (.tmp 8) rfl ⟨w1.heap.size, 0, none⟩ rfl (.agg #[.bool true, .bool t, .string z, .string y]) HL.out ?_
  simp only [Act.put, List.setIfInBounds_toArray, List.set_cons_succ, List.set_cons_zero]
  repeat (go_big_quiet_step (first | (intro hh; with_reducible exact HFR.out _ hh) | (intro _; rfl)))
  refine wpQuiet_load_at rfl 3 (.tmp 45) rfl ⟨w.heap.size + 1, 4, none⟩ rfl (.int .i64 fl) HS.out ?_
  simp only [Act.put, List.setIfInBounds_toArray, List.set_cons_succ, List.set_cons_zero]
  repeat (go_big_quiet_step (first | (intro hh; with_reducible exact HFR.out _ hh) | (intro _; rfl)))
  refine wpQuiet_nil ?_
  intro wq hBq
  have hb7 := Hb.out.trans (hBq.mono Hb.out.size)
  clear hBq
  go_wp2_with fail
  go_ret2
  exact ⟨rfl, hb7⟩
end Go.Proofs.YtpibehfmbmincaaGreatDoor
