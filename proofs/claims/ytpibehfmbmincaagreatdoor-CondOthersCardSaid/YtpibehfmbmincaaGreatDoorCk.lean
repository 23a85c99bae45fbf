/- Walks: the statement CondOthers. -/
import Derived.Test.YtpibehfmbmincaaGreatDoorCj
import Derived.Test.YtpibehfmbmincaaGreatDoorWf
namespace Go.Proofs.YtpibehfmbmincaaGreatDoor
set_option linter.unusedVariables false
open Go.ChangeShapes Go.WideShapes Go.ChangeAt Go.RowKit

theorem own_text (w : World) (base : Nat) (s : ByteArray) (hb : base ≤ w.heap.size) : (w.alloc (.cells #[.string s] 9)).ownsRow base 9 1 (.slice (some ⟨w.heap.size, 0, none⟩) 1 1) [s].length ([s].map Value.string) :=
  World.ownsRow_lit w #[.string s] 1 hb (by unfold maxLen; decide) rfl
theorem Mem2.far {w : World} {A B : Array Value} {x y : World} {d : Nat} (h : Mem2 w A B x) (hB : Below d x y) (hd : w.heap.size + 1 < d) : Mem2 w A B y :=
  ⟨fun i => (hB.cell (p := ⟨w.heap.size, i, none⟩) (by show w.heap.size < d; omega)).trans (h.a i), fun i => (hB.cell (p := ⟨w.heap.size + 1, i, none⟩) hd).trans (h.b i), Nat.lt_of_lt_of_le h.l hB.size, h.bl.trans (hB.mono (by omega))⟩
/-- A platform that is being made. -/
structure Oth (w : World) (A H : Array Value) (D : Nat) (a b c d : Value) (ss : List ByteArray) (tv : Value) (x : World) : Prop where
  m : Mem2 w A H x
  b : x.heap[D]? = some (.cells #[a, b, c, d, tv] 24 (0, 0))
  o : x.ownsRow D 9 1 tv ss.length (ss.map Value.string)
  n : tv.ownBlock ≠ some D
  d : w.heap.size + 1 < D
theorem oth_start {w x : World} {A H : Array Value} {a b c d : Value} (h : Mem2 w A H x) (s : ByteArray) :
    Oth w A H x.heap.size a b c d [s] (.slice (some ⟨x.heap.size + 1, 0, none⟩) 1 1) ((x.alloc (.cells #[a, b, c, d, .slice (some ⟨x.heap.size + 1, 0, none⟩) 1 1] 24)).alloc (.cells #[.string s] 9)) := by
  have e : (x.alloc (.cells #[a, b, c, d, .slice (some ⟨x.heap.size + 1, 0, none⟩) 1 1] 24)).heap.size = x.heap.size + 1 := by simp
  have hB := (Below.refl (x.heap.size + 1) (x.alloc (.cells #[a, b, c, d, .slice (some ⟨x.heap.size + 1, 0, none⟩) 1 1] 24))).alloc (by rw [e]; exact Nat.le_refl _) (Obj.cells #[.string s] 9)
  have ho := own_text (x.alloc (.cells #[a, b, c, d, .slice (some ⟨x.heap.size + 1, 0, none⟩) 1 1] 24)) x.heap.size s (by rw [e]; omega)
  rw [e] at ho
  refine ⟨h.next (((Below.refl _ x).alloc (Nat.le_refl _) _).alloc (by rw [e]; omega) _), ?_, ho, ?_, h.l⟩
  · rw [hB.block x.heap.size (by omega)]
    show (x.heap.push _)[x.heap.size]? = _
    simp
  · intro he
    simp [Value.ownBlock] at he
theorem Oth.lt {w x : World} {A H : Array Value} {D : Nat} {a b c d tv : Value} {ss : List ByteArray} (h : Oth w A H D a b c d ss tv x) : D < x.heap.size := lt_of_block h.b
theorem Oth.step {w x w3 : World} {A H : Array Value} {D g cap : Nat} {a b c d tv : Value} {ss : List ByteArray} {z : ByteArray} (h : Oth w A H D a b c d ss tv x)
    (hg : ((x.alloc (.cells #[.string z] 9)).drew).grownBy w3 tv.ownBlock) (ho : w3.ownsRow D 9 1 (.slice (some ⟨g, 0, none⟩) (ss.length + 1) cap) (ss.length + 1) (ss.map Value.string ++ [.string z])) (ha : tv.ownBlock = some g ∨ g = x.heap.size + 1) :
    Oth w A H D a b c d (ss ++ [z]) (.slice (some ⟨g, 0, none⟩) (ss.length + 1) cap) (w3.setCell ⟨D, 4, none⟩ (.slice (some ⟨g, 0, none⟩) (ss.length + 1) cap)) := by
  have hl := h.lt
  have hne : (Value.slice (some ⟨g, 0, none⟩) (ss.length + 1) cap).ownBlock ≠ some D := by
    intro e
    have e2 : g = D := by simpa [Value.ownBlock] using e
    rcases ha with q | q
    · exact h.n (q.trans (by rw [e2]))
    · omega
  have hb3 := app_keep' h.b hg h.n
  have hB : Below D x (w3.setCell ⟨D, 4, none⟩ (.slice (some ⟨g, 0, none⟩) (ss.length + 1) cap)) := by
    have h1 := ((Below.refl D x).alloc (by omega) (Obj.cells #[.string z] 9)).drew
    exact (h1.grown hg (by show D ≤ (x.alloc _).heap.size; simp; omega) (fun j hj => (h.o.lt j hj).1)).setCell (Nat.le_refl _) _
  refine ⟨h.m.far hB h.d, ?_, ?_, hne, h.d⟩
  · rw [block_set hb3]; rfl
  · have := own_set (i := 4) (u := Value.slice (some ⟨g, 0, none⟩) (ss.length + 1) cap) ho hne
    simpa using this
theorem take_turned (l : List ByteArray) (i j : Nat) (h : i + 1 + j = l.length) : l.reverse.take i ++ [l.getD j ByteArray.empty] = l.reverse.take (i + 1) := by
  have hi : i < l.reverse.length := by rw [List.length_reverse]; omega
  rw [List.take_succ_eq_append_getElem hi]
  congr 2
  rw [List.getElem_reverse]
  have e : l.length - 1 - i = j := by omega
  rw [List.getD_eq_getElem?_getD, List.getElem?_eq_getElem (by omega)]
  simp [e]

set_option maxRecDepth 100000 in
set_option maxHeartbeats 2000000 in
theorem oth_great (os arch file nm bu : ByteArray) (cgo : Bool) (lv fl at_ : Int) (p q s : Option Addr) (m cp n cq k cs : Nat) (w : World)
    (HA : Hid (∀ w1, Below w.heap.size w w1 → Calls Tryz.prog 6 #[] w1 fun e w' => e = .returned (.bool true) ∧ Below w1.heap.size w1 w'))
    (HG : Hid (∀ w1, Below w.heap.size w w1 → Calls Tryz.prog 7 #[.agg #[.string os, .string arch, .bool cgo, .int .i64 lv, .slice p m cp]] w1 fun e w' => e = .returned (.bool true) ∧ Below w1.heap.size w1 w')) (hz1 : file.size ≤ 140737488351232) (hz2 : bu.size ≤ 140737488351232) (hz3 : nm.size ≤ 140737488351232) :
    Calls Tryz.prog 4 #[.agg #[.string os, .string arch, .bool cgo, .int .i64 lv, .slice p m cp], .string file, .agg #[.string nm, .slice q n cq, .string bu, .slice s k cs, .int .i64 fl, .int .i64 at_]] w (LawEnd w) := by
  have M0 := mem2_new w #[.string os, .string arch, .bool cgo, .int .i64 lv, .slice p m cp] #[.string nm, .slice q n cq, .string bu, .slice s k cs, .int .i64 fl, .int .i64 at_] 24 33
  have M0b := M0.bl
  go_enter Tryz.func4, Tryz.ntmps4
  go_wp2_with fail
  refine (HA.out _ M0b).mono ?_
  rintro e w1 ⟨rfl, hB1⟩
  have M1 := M0.next hB1
  clear hB1 M0 M0b
  have M1a0 : w1.cell? ⟨w.heap.size, 0, none⟩ = some (.string os) := M1.a 0
  have M1a1 : w1.cell? ⟨w.heap.size, 1, none⟩ = some (.string arch) := M1.a 1
  have M1a2 : w1.cell? ⟨w.heap.size, 2, none⟩ = some (.bool cgo) := M1.a 2
  have M1a3 : w1.cell? ⟨w.heap.size, 3, none⟩ = some (.int .i64 lv) := M1.a 3
  have M1a4 : w1.cell? ⟨w.heap.size, 4, none⟩ = some (.slice p m cp) := M1.a 4
  have M1b0 : w1.cell? ⟨w.heap.size + 1, 0, none⟩ = some (.string nm) := M1.b 0
  have M1b1 : w1.cell? ⟨w.heap.size + 1, 1, none⟩ = some (.slice q n cq) := M1.b 1
  have M1b2 : w1.cell? ⟨w.heap.size + 1, 2, none⟩ = some (.string bu) := M1.b 2
  have M1b3 : w1.cell? ⟨w.heap.size + 1, 3, none⟩ = some (.slice s k cs) := M1.b 3
  have M1b4 : w1.cell? ⟨w.heap.size + 1, 4, none⟩ = some (.int .i64 fl) := M1.b 4
  have M1b5 : w1.cell? ⟨w.heap.size + 1, 5, none⟩ = some (.int .i64 at_) := M1.b 5
  have M1l := M1.l
  have M1l0 : w.heap.size < w1.heap.size := by omega
  go_wp2_with fail
  refine (HG.out _ M1.bl).mono ?_
  rintro e w2 ⟨rfl, hB2⟩
  have M2 := M1.next hB2
  clear M1a0 M1a1 M1a2 M1a3 M1a4 M1b0 M1b1 M1b2 M1b3 M1b4 M1b5 M1l M1l0
  clear hB2 M1
  have M2a0 : w2.cell? ⟨w.heap.size, 0, none⟩ = some (.string os) := M2.a 0
  have M2a1 : w2.cell? ⟨w.heap.size, 1, none⟩ = some (.string arch) := M2.a 1
  have M2a2 : w2.cell? ⟨w.heap.size, 2, none⟩ = some (.bool cgo) := M2.a 2
  have M2a3 : w2.cell? ⟨w.heap.size, 3, none⟩ = some (.int .i64 lv) := M2.a 3
  have M2a4 : w2.cell? ⟨w.heap.size, 4, none⟩ = some (.slice p m cp) := M2.a 4
  have M2b0 : w2.cell? ⟨w.heap.size + 1, 0, none⟩ = some (.string nm) := M2.b 0
  have M2b1 : w2.cell? ⟨w.heap.size + 1, 1, none⟩ = some (.slice q n cq) := M2.b 1
  have M2b2 : w2.cell? ⟨w.heap.size + 1, 2, none⟩ = some (.string bu) := M2.b 2
  have M2b3 : w2.cell? ⟨w.heap.size + 1, 3, none⟩ = some (.slice s k cs) := M2.b 3
  have M2b4 : w2.cell? ⟨w.heap.size + 1, 4, none⟩ = some (.int .i64 fl) := M2.b 4
  have M2b5 : w2.cell? ⟨w.heap.size + 1, 5, none⟩ = some (.int .i64 at_) := M2.b 5
  have M2l := M2.l
  have M2l0 : w.heap.size < w2.heap.size := by omega
  go_wp2_with fail
  go_ret
  exact ⟨rfl, M2.bl⟩
set_option maxRecDepth 100000 in
set_option maxHeartbeats 2000000 in
theorem oth_long (os arch file nm bu : ByteArray) (cgo : Bool) (lv fl at_ : Int) (p q s : Option Addr) (m cp n cq k cs : Nat) (w : World)
    (HA : Hid (∀ w1, Below w.heap.size w w1 → Calls Tryz.prog 6 #[] w1 fun e w' => e = .returned (.bool true) ∧ Below w1.heap.size w1 w'))
    (HG : Hid (∀ w1, Below w.heap.size w w1 → Calls Tryz.prog 7 #[.agg #[.string os, .string arch, .bool cgo, .int .i64 lv, .slice p m cp]] w1 fun e w' => e = .returned (.bool false) ∧ Below w1.heap.size w1 w')) (hz1 : file.size ≤ 140737488351232) (hz2 : bu.size ≤ 140737488351232) (hz3 : nm.size ≤ 140737488351232)
    (h5 : (512 : Int) < (file.size : Int) + (bu.size : Int) + (nm.size : Int)) :
    Calls Tryz.prog 4 #[.agg #[.string os, .string arch, .bool cgo, .int .i64 lv, .slice p m cp], .string file, .agg #[.string nm, .slice q n cq, .string bu, .slice s k cs, .int .i64 fl, .int .i64 at_]] w (LawEnd w) := by
  have M0 := mem2_new w #[.string os, .string arch, .bool cgo, .int .i64 lv, .slice p m cp] #[.string nm, .slice q n cq, .string bu, .slice s k cs, .int .i64 fl, .int .i64 at_] 24 33
  have M0b := M0.bl
  go_enter Tryz.func4, Tryz.ntmps4
  go_wp2_with fail
  refine (HA.out _ M0b).mono ?_
  rintro e w1 ⟨rfl, hB1⟩
  have M1 := M0.next hB1
  clear hB1 M0 M0b
  have M1a0 : w1.cell? ⟨w.heap.size, 0, none⟩ = some (.string os) := M1.a 0
  have M1a1 : w1.cell? ⟨w.heap.size, 1, none⟩ = some (.string arch) := M1.a 1
  have M1a2 : w1.cell? ⟨w.heap.size, 2, none⟩ = some (.bool cgo) := M1.a 2
  have M1a3 : w1.cell? ⟨w.heap.size, 3, none⟩ = some (.int .i64 lv) := M1.a 3
  have M1a4 : w1.cell? ⟨w.heap.size, 4, none⟩ = some (.slice p m cp) := M1.a 4
  have M1b0 : w1.cell? ⟨w.heap.size + 1, 0, none⟩ = some (.string nm) := M1.b 0
  have M1b1 : w1.cell? ⟨w.heap.size + 1, 1, none⟩ = some (.slice q n cq) := M1.b 1
  have M1b2 : w1.cell? ⟨w.heap.size + 1, 2, none⟩ = some (.string bu) := M1.b 2
  have M1b3 : w1.cell? ⟨w.heap.size + 1, 3, none⟩ = some (.slice s k cs) := M1.b 3
  have M1b4 : w1.cell? ⟨w.heap.size + 1, 4, none⟩ = some (.int .i64 fl) := M1.b 4
  have M1b5 : w1.cell? ⟨w.heap.size + 1, 5, none⟩ = some (.int .i64 at_) := M1.b 5
  have M1l := M1.l
  have M1l0 : w.heap.size < w1.heap.size := by omega
  go_wp2_with fail
  refine (HG.out _ M1.bl).mono ?_
  rintro e w2 ⟨rfl, hB2⟩
  have M2 := M1.next hB2
  clear M1a0 M1a1 M1a2 M1a3 M1a4 M1b0 M1b1 M1b2 M1b3 M1b4 M1b5 M1l M1l0
  clear hB2 M1
  have M2a0 : w2.cell? ⟨w.heap.size, 0, none⟩ = some (.string os) := M2.a 0
  have M2a1 : w2.cell? ⟨w.heap.size, 1, none⟩ = some (.string arch) := M2.a 1
  have M2a2 : w2.cell? ⟨w.heap.size, 2, none⟩ = some (.bool cgo) := M2.a 2
  have M2a3 : w2.cell? ⟨w.heap.size, 3, none⟩ = some (.int .i64 lv) := M2.a 3
  have M2a4 : w2.cell? ⟨w.heap.size, 4, none⟩ = some (.slice p m cp) := M2.a 4
  have M2b0 : w2.cell? ⟨w.heap.size + 1, 0, none⟩ = some (.string nm) := M2.b 0
  have M2b1 : w2.cell? ⟨w.heap.size + 1, 1, none⟩ = some (.slice q n cq) := M2.b 1
  have M2b2 : w2.cell? ⟨w.heap.size + 1, 2, none⟩ = some (.string bu) := M2.b 2
  have M2b3 : w2.cell? ⟨w.heap.size + 1, 3, none⟩ = some (.slice s k cs) := M2.b 3
  have M2b4 : w2.cell? ⟨w.heap.size + 1, 4, none⟩ = some (.int .i64 fl) := M2.b 4
  have M2b5 : w2.cell? ⟨w.heap.size + 1, 5, none⟩ = some (.int .i64 at_) := M2.b 5
  have M2l := M2.l
  have M2l0 : w.heap.size < w2.heap.size := by omega
  go_wp2_with fail
  go_ret
  exact ⟨rfl, M2.bl⟩
set_option maxRecDepth 100000 in
set_option maxHeartbeats 2000000 in
theorem oth_many (os arch file nm bu : ByteArray) (cgo : Bool) (lv fl at_ : Int) (p q s : Option Addr) (m cp n cq k cs : Nat) (w : World)
    (HA : Hid (∀ w1, Below w.heap.size w w1 → Calls Tryz.prog 6 #[] w1 fun e w' => e = .returned (.bool true) ∧ Below w1.heap.size w1 w'))
    (HG : Hid (∀ w1, Below w.heap.size w w1 → Calls Tryz.prog 7 #[.agg #[.string os, .string arch, .bool cgo, .int .i64 lv, .slice p m cp]] w1 fun e w' => e = .returned (.bool false) ∧ Below w1.heap.size w1 w')) (hz1 : file.size ≤ 140737488351232) (hz2 : bu.size ≤ 140737488351232) (hz3 : nm.size ≤ 140737488351232)
    (h5 : ¬ (512 : Int) < (file.size : Int) + (bu.size : Int) + (nm.size : Int)) (h20 : (20 : Int) < (n : Int)) :
    Calls Tryz.prog 4 #[.agg #[.string os, .string arch, .bool cgo, .int .i64 lv, .slice p m cp], .string file, .agg #[.string nm, .slice q n cq, .string bu, .slice s k cs, .int .i64 fl, .int .i64 at_]] w (LawEnd w) := by
  have M0 := mem2_new w #[.string os, .string arch, .bool cgo, .int .i64 lv, .slice p m cp] #[.string nm, .slice q n cq, .string bu, .slice s k cs, .int .i64 fl, .int .i64 at_] 24 33
  have M0b := M0.bl
  go_enter Tryz.func4, Tryz.ntmps4
  go_wp2_with fail
  refine (HA.out _ M0b).mono ?_
  rintro e w1 ⟨rfl, hB1⟩
  have M1 := M0.next hB1
  clear hB1 M0 M0b
  have M1a0 : w1.cell? ⟨w.heap.size, 0, none⟩ = some (.string os) := M1.a 0
  have M1a1 : w1.cell? ⟨w.heap.size, 1, none⟩ = some (.string arch) := M1.a 1
  have M1a2 : w1.cell? ⟨w.heap.size, 2, none⟩ = some (.bool cgo) := M1.a 2
  have M1a3 : w1.cell? ⟨w.heap.size, 3, none⟩ = some (.int .i64 lv) := M1.a 3
  have M1a4 : w1.cell? ⟨w.heap.size, 4, none⟩ = some (.slice p m cp) := M1.a 4
  have M1b0 : w1.cell? ⟨w.heap.size + 1, 0, none⟩ = some (.string nm) := M1.b 0
  have M1b1 : w1.cell? ⟨w.heap.size + 1, 1, none⟩ = some (.slice q n cq) := M1.b 1
  have M1b2 : w1.cell? ⟨w.heap.size + 1, 2, none⟩ = some (.string bu) := M1.b 2
  have M1b3 : w1.cell? ⟨w.heap.size + 1, 3, none⟩ = some (.slice s k cs) := M1.b 3
  have M1b4 : w1.cell? ⟨w.heap.size + 1, 4, none⟩ = some (.int .i64 fl) := M1.b 4
  have M1b5 : w1.cell? ⟨w.heap.size + 1, 5, none⟩ = some (.int .i64 at_) := M1.b 5
  have M1l := M1.l
  have M1l0 : w.heap.size < w1.heap.size := by omega
  go_wp2_with fail
  refine (HG.out _ M1.bl).mono ?_
  rintro e w2 ⟨rfl, hB2⟩
  have M2 := M1.next hB2
  clear M1a0 M1a1 M1a2 M1a3 M1a4 M1b0 M1b1 M1b2 M1b3 M1b4 M1b5 M1l M1l0
  clear hB2 M1
  have M2a0 : w2.cell? ⟨w.heap.size, 0, none⟩ = some (.string os) := M2.a 0
  have M2a1 : w2.cell? ⟨w.heap.size, 1, none⟩ = some (.string arch) := M2.a 1
  have M2a2 : w2.cell? ⟨w.heap.size, 2, none⟩ = some (.bool cgo) := M2.a 2
  have M2a3 : w2.cell? ⟨w.heap.size, 3, none⟩ = some (.int .i64 lv) := M2.a 3
  have M2a4 : w2.cell? ⟨w.heap.size, 4, none⟩ = some (.slice p m cp) := M2.a 4
  have M2b0 : w2.cell? ⟨w.heap.size + 1, 0, none⟩ = some (.string nm) := M2.b 0
  have M2b1 : w2.cell? ⟨w.heap.size + 1, 1, none⟩ = some (.slice q n cq) := M2.b 1
  have M2b2 : w2.cell? ⟨w.heap.size + 1, 2, none⟩ = some (.string bu) := M2.b 2
  have M2b3 : w2.cell? ⟨w.heap.size + 1, 3, none⟩ = some (.slice s k cs) := M2.b 3
  have M2b4 : w2.cell? ⟨w.heap.size + 1, 4, none⟩ = some (.int .i64 fl) := M2.b 4
  have M2b5 : w2.cell? ⟨w.heap.size + 1, 5, none⟩ = some (.int .i64 at_) := M2.b 5
  have M2l := M2.l
  have M2l0 : w.heap.size < w2.heap.size := by omega
  go_wp2_with fail
  go_ret
  exact ⟨rfl, M2.bl⟩
set_option maxRecDepth 100000 in
set_option maxHeartbeats 2000000 in
theorem oth_main (os arch file nm bu : ByteArray) (cgo : Bool) (lv fl at_ : Int) (p q s : Option Addr) (m cp n cq k cs : Nat) (w : World)
    (HA : Hid (∀ w1, Below w.heap.size w w1 → Calls Tryz.prog 6 #[] w1 fun e w' => e = .returned (.bool true) ∧ Below w1.heap.size w1 w'))
    (HG : Hid (∀ w1, Below w.heap.size w w1 → Calls Tryz.prog 7 #[.agg #[.string os, .string arch, .bool cgo, .int .i64 lv, .slice p m cp]] w1 fun e w' => e = .returned (.bool false) ∧ Below w1.heap.size w1 w')) (hz1 : file.size ≤ 140737488351232) (hz2 : bu.size ≤ 140737488351232) (hz3 : nm.size ≤ 140737488351232)
    (h5 : ¬ (512 : Int) < (file.size : Int) + (bu.size : Int) + (nm.size : Int)) (h20 : ¬ (20 : Int) < (n : Int)) (hm20 : m ≤ 20)
    (tags : List ByteArray) (hmt : Hid (m = tags.length)) (HT : Hid (∀ w1, Below w.heap.size w w1 → Strs w1 (.slice p m cp) tags)) (r1 r2 : Int)
    (HI : Hid (∀ w1, Below w.heap.size w w1 → Calls Tryz.prog 10 #[.agg #[.string os, .string arch, .bool cgo, .int .i64 lv, .slice p m cp], .string file, .agg #[.string nm, .slice q n cq, .string bu, .slice s k cs, .int .i64 fl, .int .i64 at_]] w1 fun e w' => e = .returned (.tuple #[.int .i64 r1, .int .i64 r2]) ∧ Below w1.heap.size w1 w'))
    (HJ : Hid (∀ tv w1, Below w.heap.size w w1 → Strs w1 tv (dashB :: tags.reverse) → Calls Tryz.prog 10 #[.agg #[.string os, .string arch, .bool cgo, .int .i64 lv, tv], .string file, .agg #[.string nm, .slice q n cq, .string bu, .slice s k cs, .int .i64 fl, .int .i64 at_]] w1 fun e w' => e = .returned (.tuple #[.int .i64 r1, .int .i64 r2]) ∧ Below w1.heap.size w1 w')) :
    Calls Tryz.prog 4 #[.agg #[.string os, .string arch, .bool cgo, .int .i64 lv, .slice p m cp], .string file, .agg #[.string nm, .slice q n cq, .string bu, .slice s k cs, .int .i64 fl, .int .i64 at_]] w (LawEnd w) := by
  have M0 := mem2_new w #[.string os, .string arch, .bool cgo, .int .i64 lv, .slice p m cp] #[.string nm, .slice q n cq, .string bu, .slice s k cs, .int .i64 fl, .int .i64 at_] 24 33
  have M0b := M0.bl
  go_enter Tryz.func4, Tryz.ntmps4
  go_wp2_with fail
  refine (HA.out _ M0b).mono ?_
  rintro e w1 ⟨rfl, hB1⟩
  have M1 := M0.next hB1
  clear hB1 M0 M0b
  have M1a0 : w1.cell? ⟨w.heap.size, 0, none⟩ = some (.string os) := M1.a 0
  have M1a1 : w1.cell? ⟨w.heap.size, 1, none⟩ = some (.string arch) := M1.a 1
  have M1a2 : w1.cell? ⟨w.heap.size, 2, none⟩ = some (.bool cgo) := M1.a 2
  have M1a3 : w1.cell? ⟨w.heap.size, 3, none⟩ = some (.int .i64 lv) := M1.a 3
  have M1a4 : w1.cell? ⟨w.heap.size, 4, none⟩ = some (.slice p m cp) := M1.a 4
  have M1b0 : w1.cell? ⟨w.heap.size + 1, 0, none⟩ = some (.string nm) := M1.b 0
  have M1b1 : w1.cell? ⟨w.heap.size + 1, 1, none⟩ = some (.slice q n cq) := M1.b 1
  have M1b2 : w1.cell? ⟨w.heap.size + 1, 2, none⟩ = some (.string bu) := M1.b 2
  have M1b3 : w1.cell? ⟨w.heap.size + 1, 3, none⟩ = some (.slice s k cs) := M1.b 3
  have M1b4 : w1.cell? ⟨w.heap.size + 1, 4, none⟩ = some (.int .i64 fl) := M1.b 4
  have M1b5 : w1.cell? ⟨w.heap.size + 1, 5, none⟩ = some (.int .i64 at_) := M1.b 5
  have M1l := M1.l
  have M1l0 : w.heap.size < w1.heap.size := by omega
  go_wp2_with fail
  refine (HG.out _ M1.bl).mono ?_
  rintro e w2 ⟨rfl, hB2⟩
  have M2 := M1.next hB2
  clear M1a0 M1a1 M1a2 M1a3 M1a4 M1b0 M1b1 M1b2 M1b3 M1b4 M1b5 M1l M1l0
  clear hB2 M1
  have M2a0 : w2.cell? ⟨w.heap.size, 0, none⟩ = some (.string os) := M2.a 0
  have M2a1 : w2.cell? ⟨w.heap.size, 1, none⟩ = some (.string arch) := M2.a 1
  have M2a2 : w2.cell? ⟨w.heap.size, 2, none⟩ = some (.bool cgo) := M2.a 2
  have M2a3 : w2.cell? ⟨w.heap.size, 3, none⟩ = some (.int .i64 lv) := M2.a 3
  have M2a4 : w2.cell? ⟨w.heap.size, 4, none⟩ = some (.slice p m cp) := M2.a 4
  have M2b0 : w2.cell? ⟨w.heap.size + 1, 0, none⟩ = some (.string nm) := M2.b 0
  have M2b1 : w2.cell? ⟨w.heap.size + 1, 1, none⟩ = some (.slice q n cq) := M2.b 1
  have M2b2 : w2.cell? ⟨w.heap.size + 1, 2, none⟩ = some (.string bu) := M2.b 2
  have M2b3 : w2.cell? ⟨w.heap.size + 1, 3, none⟩ = some (.slice s k cs) := M2.b 3
  have M2b4 : w2.cell? ⟨w.heap.size + 1, 4, none⟩ = some (.int .i64 fl) := M2.b 4
  have M2b5 : w2.cell? ⟨w.heap.size + 1, 5, none⟩ = some (.int .i64 at_) := M2.b 5
  have M2l := M2.l
  have M2l0 : w.heap.size < w2.heap.size := by omega
  go_wp2_with fail
  obtain ⟨i0, hi, hz0, hz1x, hz2x⟩ := info_parts Tryz.info9
  have HM2 := Lib.hid M2
  clear M2a0 M2a1 M2a2 M2a3 M2a4 M2b0 M2b1 M2b2 M2b3 M2b4 M2b5 M2l M2l0
  clear M2
  go_loopg [8, 42] m (fun g _ iv wr => ∃ i ss tv, i + g = m ∧ iv = .int .i64 (i : Int) ∧ ss = dashB :: tags.reverse.take i ∧ Oth w #[.string os, .string arch, .bool cgo, .int .i64 lv, .slice p m cp] #[.string nm, .slice q n cq, .string bu, .slice s k cs, .int .i64 fl, .int .i64 at_] w2.heap.size (.string os) (.string arch) (.bool cgo) (.int .i64 lv) ss tv wr)
  case atStart => exact ⟨0, _, _, by omega, rfl, rfl, oth_start HM2.out _⟩
  case round =>
    obtain ⟨i, ss, tv, hig, rfl, hss, hO⟩ := hrel
    have Hss := Lib.hid hss
    have Hsl : Hid (ss.length ≤ 21) := Lib.hid (by rw [hss]; simp [List.length_take]; omega)
    clear hss
    have HO := Lib.hid hO
    have HTw := Lib.hid (HT.out _ hO.m.bl)
    by_cases hlt : i < m
    · have hltI : (i : Int) < (m : Int) := by omega
      obtain ⟨j, hj⟩ : ∃ j, i + 1 + j = m := ⟨m - (i + 1), by omega⟩
      rcases HTw.out with ⟨⟨p2, c2, e⟩, hn⟩ | ⟨b, off, c2, e, hl2, hmx, hb, hcell⟩
      · have := hmt.out; rw [hn] at this; simp at this; omega
      simp only [Value.slice.injEq] at e
      obtain ⟨rfl, e2, rfl⟩ := e
      have hcz := hcell j (by omega)
      have Hz := Lib.hid (take_turned tags i j (by omega))
      obtain ⟨z, hzz⟩ : ∃ z, z = tags.getD j ByteArray.empty := ⟨_, rfl⟩
      rw [← hzz] at hcz Hz
      have hix : IntKind.i64.wrap (IntKind.i64.wrap ((m : Int) - 1) - (i : Int)) = (j : Int) := by simp [IntKind.wrap, IntKind.bits, IntKind.signed]; omega
      have hjm : (j : Int) < (m : Int) := by omega
      have Hm := Lib.hid hj
      have Hcp := Lib.hid hl2
      clear hl2 hmx hcell e2 HTw hzz hj
      have hca := hO.m.a 4
      have hdt := (block_cell hO.b 4)
      have hlw := hO.lt
      have hd := hO.d
      have hl0 := hO.m.l
      simp at hca hdt
      clear hO
      go_wp2_with fail
      go_region_law (refine step_append_lies _ rfl (.tmp 46) (.tmp 57) 22 rfl w2.heap.size 9 i0 (.string ⟨#[]⟩) 1 16 Tryz.underlying22 hi hz0 hz1x hz2x rfl (by decide) tv ss.length (ss.map Value.string) (by simp [Act.eval]) (HO.out.o.alloc _) ⟨wr.heap.size, 0, none⟩ 1 1 [.string z] (by simp [Act.eval]) rfl (cell_one_new _ _ _) (by intro u hu; simp at hu; subst hu; rfl) (by decide) (by have := Hsl.out; unfold maxLen; omega) (by have := Hsl.out; omega) (by have := HO.out.lt; simp; omega) (wr.heap.size + 1) (by simp) ?_; intro g cap w3 hown3 hgrow3 hat3 hlt3; have hblk3 := app_keep' HO.out.b hgrow3 HO.out.n; have hc3 : w3.cell? ⟨w2.heap.size, 4, none⟩ = some tv := (block_cell hblk3 4).trans rfl; have hf3 := block_free hblk3 4; have Hst := Lib.hid (HO.out.step hgrow3 hown3 hat3); clear hblk3 hown3 hgrow3 hat3)
      all_goals
        have HO4 := Hst
        clear hc3 hf3 hca hdt hcz Hst hlt3
        generalize w3.setCell ⟨w2.heap.size, 4, none⟩ (.slice (some ⟨g, 0, none⟩) (ss.length + 1) cap) = w4 at *
        go_wp2_with fail
        go_roundg (gk - 1)
        case measure => omega
        case rel => exact ⟨i + 1, _, _, by omega, by go_num, by rw [Hss.out, List.cons_append, Hz.out], HO4.out⟩
    · have hnl : ¬ (i : Int) < (m : Int) := by omega
      have htv : Strs wr tv (dashB :: tags.reverse) := by
        have h := Strs.ofRow hO.o
        rw [Hss.out, List.take_of_length_le (by rw [List.length_reverse]; have := hmt.out; omega)] at h
        exact h
      have Htv := Lib.hid htv
      have hM := hO.m
      have Dc0 : wr.cell? ⟨w2.heap.size, 0, none⟩ = some (.string os) := (block_cell hO.b 0).trans rfl
      have Dc1 : wr.cell? ⟨w2.heap.size, 1, none⟩ = some (.string arch) := (block_cell hO.b 1).trans rfl
      have Dc2 : wr.cell? ⟨w2.heap.size, 2, none⟩ = some (.bool cgo) := (block_cell hO.b 2).trans rfl
      have Dc3 : wr.cell? ⟨w2.heap.size, 3, none⟩ = some (.int .i64 lv) := (block_cell hO.b 3).trans rfl
      have Dc4 : wr.cell? ⟨w2.heap.size, 4, none⟩ = some (tv) := (block_cell hO.b 4).trans rfl
      have hDl := hO.lt
      have hd := hO.d
      clear hO htv HO HTw
      have hMa0 : wr.cell? ⟨w.heap.size, 0, none⟩ = some (.string os) := hM.a 0
      have hMa1 : wr.cell? ⟨w.heap.size, 1, none⟩ = some (.string arch) := hM.a 1
      have hMa2 : wr.cell? ⟨w.heap.size, 2, none⟩ = some (.bool cgo) := hM.a 2
      have hMa3 : wr.cell? ⟨w.heap.size, 3, none⟩ = some (.int .i64 lv) := hM.a 3
      have hMa4 : wr.cell? ⟨w.heap.size, 4, none⟩ = some (.slice p m cp) := hM.a 4
      have hMb0 : wr.cell? ⟨w.heap.size + 1, 0, none⟩ = some (.string nm) := hM.b 0
      have hMb1 : wr.cell? ⟨w.heap.size + 1, 1, none⟩ = some (.slice q n cq) := hM.b 1
      have hMb2 : wr.cell? ⟨w.heap.size + 1, 2, none⟩ = some (.string bu) := hM.b 2
      have hMb3 : wr.cell? ⟨w.heap.size + 1, 3, none⟩ = some (.slice s k cs) := hM.b 3
      have hMb4 : wr.cell? ⟨w.heap.size + 1, 4, none⟩ = some (.int .i64 fl) := hM.b 4
      have hMb5 : wr.cell? ⟨w.heap.size + 1, 5, none⟩ = some (.int .i64 at_) := hM.b 5
      have hMl := hM.l
      have hMl0 : w.heap.size < wr.heap.size := by omega
      go_wp2_with fail
      refine (HI.out _ hM.bl).mono ?_
      rintro e w3 ⟨rfl, hB3⟩
      have M3 := hM.next hB3
      have Ec0 : w3.cell? ⟨w2.heap.size, 0, none⟩ = some (.string os) := (hB3.cell (p := ⟨w2.heap.size, 0, none⟩) hDl).trans Dc0
      have Ec1 : w3.cell? ⟨w2.heap.size, 1, none⟩ = some (.string arch) := (hB3.cell (p := ⟨w2.heap.size, 1, none⟩) hDl).trans Dc1
      have Ec2 : w3.cell? ⟨w2.heap.size, 2, none⟩ = some (.bool cgo) := (hB3.cell (p := ⟨w2.heap.size, 2, none⟩) hDl).trans Dc2
      have Ec3 : w3.cell? ⟨w2.heap.size, 3, none⟩ = some (.int .i64 lv) := (hB3.cell (p := ⟨w2.heap.size, 3, none⟩) hDl).trans Dc3
      have Ec4 : w3.cell? ⟨w2.heap.size, 4, none⟩ = some (tv) := (hB3.cell (p := ⟨w2.heap.size, 4, none⟩) hDl).trans Dc4
      have Htv3 := Lib.hid (Htv.out.below hB3)
      have hDl3 : w2.heap.size < w3.heap.size := Nat.lt_of_lt_of_le hDl hB3.size
      clear Dc0 Dc1 Dc2 Dc3 Dc4 hB3
      clear hMa0 hMa1 hMa2 hMa3 hMa4 hMb0 hMb1 hMb2 hMb3 hMb4 hMb5 hMl hMl0
      have M3a0 : w3.cell? ⟨w.heap.size, 0, none⟩ = some (.string os) := M3.a 0
      have M3a1 : w3.cell? ⟨w.heap.size, 1, none⟩ = some (.string arch) := M3.a 1
      have M3a2 : w3.cell? ⟨w.heap.size, 2, none⟩ = some (.bool cgo) := M3.a 2
      have M3a3 : w3.cell? ⟨w.heap.size, 3, none⟩ = some (.int .i64 lv) := M3.a 3
      have M3a4 : w3.cell? ⟨w.heap.size, 4, none⟩ = some (.slice p m cp) := M3.a 4
      have M3b0 : w3.cell? ⟨w.heap.size + 1, 0, none⟩ = some (.string nm) := M3.b 0
      have M3b1 : w3.cell? ⟨w.heap.size + 1, 1, none⟩ = some (.slice q n cq) := M3.b 1
      have M3b2 : w3.cell? ⟨w.heap.size + 1, 2, none⟩ = some (.string bu) := M3.b 2
      have M3b3 : w3.cell? ⟨w.heap.size + 1, 3, none⟩ = some (.slice s k cs) := M3.b 3
      have M3b4 : w3.cell? ⟨w.heap.size + 1, 4, none⟩ = some (.int .i64 fl) := M3.b 4
      have M3b5 : w3.cell? ⟨w.heap.size + 1, 5, none⟩ = some (.int .i64 at_) := M3.b 5
      have M3l := M3.l
      have M3l0 : w.heap.size < w3.heap.size := by omega
      go_wp2_with fail
      refine (HJ.out _ _ M3.bl Htv3.out).mono ?_
      rintro e w4 ⟨rfl, hB4⟩
      have hb7 := M3.bl.trans (hB4.mono M3.bl.size)
      clear Ec0 Ec1 Ec2 Ec3 Ec4 hB4
      clear M3a0 M3a1 M3a2 M3a3 M3a4 M3b0 M3b1 M3b2 M3b3 M3b4 M3b5 M3l M3l0
      go_wp2_with fail
      go_ret
      exact ⟨rfl, hb7⟩
end Go.Proofs.YtpibehfmbmincaaGreatDoor
