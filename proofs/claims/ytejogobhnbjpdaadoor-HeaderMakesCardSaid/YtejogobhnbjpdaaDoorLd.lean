/- Walks: the document's words that join, and behind which tokens a line feed is a semicolon. -/
import Derived.Test.YtejogobhnbjpdaaDoorLa
namespace Go.Proofs.YtejogobhnbjpdaaDoor
set_option linter.unusedVariables false
set_option linter.unusedSimpArgs false
open Go.ChangeShapes Go.WideShapes Go.ChangeAt Go.RowKit

def kwB : List ByteArray := [⟨#[99, 97, 115, 101]⟩, ⟨#[99, 104, 97, 110]⟩, ⟨#[99, 111, 110, 115, 116]⟩, ⟨#[100, 101, 102, 97, 117, 108, 116]⟩, ⟨#[100, 101, 102, 101, 114]⟩, ⟨#[101, 108, 115, 101]⟩, ⟨#[102, 111, 114]⟩, ⟨#[102, 117, 110, 99]⟩, ⟨#[103, 111]⟩, ⟨#[103, 111, 116, 111]⟩, ⟨#[105, 102]⟩, ⟨#[105, 109, 112, 111, 114, 116]⟩, ⟨#[105, 110, 116, 101, 114, 102, 97, 99, 101]⟩, ⟨#[109, 97, 112]⟩, ⟨#[112, 97, 99, 107, 97, 103, 101]⟩, ⟨#[114, 97, 110, 103, 101]⟩, ⟨#[115, 101, 108, 101, 99, 116]⟩, ⟨#[115, 116, 114, 117, 99, 116]⟩, ⟨#[115, 119, 105, 116, 99, 104]⟩, ⟨#[116, 121, 112, 101]⟩, ⟨#[118, 97, 114]⟩]
theorem kwB_is : kwB.map (fun b => b.data.toList) = kws := rfl
theorem joins_kw (x : ByteArray) : joinsB x = true ↔ ∃ k : Nat, kwB[k]? = some x := by
  unfold joinsB
  rw [List.contains_iff_mem, ← kwB_is, List.mem_map]
  constructor
  · rintro ⟨b, hb, he⟩
    obtain ⟨k, hk⟩ := List.getElem?_of_mem hb
    exact ⟨k, by rw [hk, ba_ext he]⟩
  · rintro ⟨k, hk⟩
    exact ⟨x, List.mem_of_getElem? hk, rfl⟩
set_option maxRecDepth 100000 in
set_option maxHeartbeats 1000000 in
theorem open_any (x : ByteArray) (w : World) : Calls Tryd.prog 15 #[.string x] w fun e w' => e = .returned (.bool (joinsB x)) ∧ Below w.heap.size w w' := by
  have hblk := heap_alloc_new w (.cells #[.string ⟨#[99, 97, 115, 101]⟩, .string ⟨#[99, 104, 97, 110]⟩, .string ⟨#[99, 111, 110, 115, 116]⟩, .string ⟨#[100, 101, 102, 97, 117, 108, 116]⟩, .string ⟨#[100, 101, 102, 101, 114]⟩, .string ⟨#[101, 108, 115, 101]⟩, .string ⟨#[102, 111, 114]⟩, .string ⟨#[102, 117, 110, 99]⟩, .string ⟨#[103, 111]⟩, .string ⟨#[103, 111, 116, 111]⟩, .string ⟨#[105, 102]⟩, .string ⟨#[105, 109, 112, 111, 114, 116]⟩, .string ⟨#[105, 110, 116, 101, 114, 102, 97, 99, 101]⟩, .string ⟨#[109, 97, 112]⟩, .string ⟨#[112, 97, 99, 107, 97, 103, 101]⟩, .string ⟨#[114, 97, 110, 103, 101]⟩, .string ⟨#[115, 101, 108, 101, 99, 116]⟩, .string ⟨#[115, 116, 114, 117, 99, 116]⟩, .string ⟨#[115, 119, 105, 116, 99, 104]⟩, .string ⟨#[116, 121, 112, 101]⟩, .string ⟨#[118, 97, 114]⟩] 9)
  have hB0 := (Below.refl w.heap.size w).alloc (Nat.le_refl _) (.cells #[.string ⟨#[99, 97, 115, 101]⟩, .string ⟨#[99, 104, 97, 110]⟩, .string ⟨#[99, 111, 110, 115, 116]⟩, .string ⟨#[100, 101, 102, 97, 117, 108, 116]⟩, .string ⟨#[100, 101, 102, 101, 114]⟩, .string ⟨#[101, 108, 115, 101]⟩, .string ⟨#[102, 111, 114]⟩, .string ⟨#[102, 117, 110, 99]⟩, .string ⟨#[103, 111]⟩, .string ⟨#[103, 111, 116, 111]⟩, .string ⟨#[105, 102]⟩, .string ⟨#[105, 109, 112, 111, 114, 116]⟩, .string ⟨#[105, 110, 116, 101, 114, 102, 97, 99, 101]⟩, .string ⟨#[109, 97, 112]⟩, .string ⟨#[112, 97, 99, 107, 97, 103, 101]⟩, .string ⟨#[114, 97, 110, 103, 101]⟩, .string ⟨#[115, 101, 108, 101, 99, 116]⟩, .string ⟨#[115, 116, 114, 117, 99, 116]⟩, .string ⟨#[115, 119, 105, 116, 99, 104]⟩, .string ⟨#[116, 121, 112, 101]⟩, .string ⟨#[118, 97, 114]⟩] 9)
  have hc : ∀ (k : Nat) (y : ByteArray), kwB[k]? = some y → (w.alloc (.cells #[.string ⟨#[99, 97, 115, 101]⟩, .string ⟨#[99, 104, 97, 110]⟩, .string ⟨#[99, 111, 110, 115, 116]⟩, .string ⟨#[100, 101, 102, 97, 117, 108, 116]⟩, .string ⟨#[100, 101, 102, 101, 114]⟩, .string ⟨#[101, 108, 115, 101]⟩, .string ⟨#[102, 111, 114]⟩, .string ⟨#[102, 117, 110, 99]⟩, .string ⟨#[103, 111]⟩, .string ⟨#[103, 111, 116, 111]⟩, .string ⟨#[105, 102]⟩, .string ⟨#[105, 109, 112, 111, 114, 116]⟩, .string ⟨#[105, 110, 116, 101, 114, 102, 97, 99, 101]⟩, .string ⟨#[109, 97, 112]⟩, .string ⟨#[112, 97, 99, 107, 97, 103, 101]⟩, .string ⟨#[114, 97, 110, 103, 101]⟩, .string ⟨#[115, 101, 108, 101, 99, 116]⟩, .string ⟨#[115, 116, 114, 117, 99, 116]⟩, .string ⟨#[115, 119, 105, 116, 99, 104]⟩, .string ⟨#[116, 121, 112, 101]⟩, .string ⟨#[118, 97, 114]⟩] 9)).cell? ⟨w.heap.size, k, none⟩ = some (.string y) := fun k y hy => by
    rw [block_cell hblk]
    have : (#[.string ⟨#[99, 97, 115, 101]⟩, .string ⟨#[99, 104, 97, 110]⟩, .string ⟨#[99, 111, 110, 115, 116]⟩, .string ⟨#[100, 101, 102, 97, 117, 108, 116]⟩, .string ⟨#[100, 101, 102, 101, 114]⟩, .string ⟨#[101, 108, 115, 101]⟩, .string ⟨#[102, 111, 114]⟩, .string ⟨#[102, 117, 110, 99]⟩, .string ⟨#[103, 111]⟩, .string ⟨#[103, 111, 116, 111]⟩, .string ⟨#[105, 102]⟩, .string ⟨#[105, 109, 112, 111, 114, 116]⟩, .string ⟨#[105, 110, 116, 101, 114, 102, 97, 99, 101]⟩, .string ⟨#[109, 97, 112]⟩, .string ⟨#[112, 97, 99, 107, 97, 103, 101]⟩, .string ⟨#[114, 97, 110, 103, 101]⟩, .string ⟨#[115, 101, 108, 101, 99, 116]⟩, .string ⟨#[115, 116, 114, 117, 99, 116]⟩, .string ⟨#[115, 119, 105, 116, 99, 104]⟩, .string ⟨#[116, 121, 112, 101]⟩, .string ⟨#[118, 97, 114]⟩] : Array Value) = (kwB.map Value.string).toArray := rfl
    rw [this, List.getElem?_toArray, List.getElem?_map, hy]; rfl
  have HC := Lib.hid hc
  have HB0 := Lib.hid hB0
  have HJ := Lib.hid (joins_kw x)
  have hlen : kwB.length = 21 := rfl
  clear hc hB0 hblk
  generalize joinsB x = jb at *
  go_enter Tryd.func15, Tryd.ntmps15
  go_wp2_with fail
  generalize w.alloc (.cells #[.string ⟨#[99, 97, 115, 101]⟩, .string ⟨#[99, 104, 97, 110]⟩, .string ⟨#[99, 111, 110, 115, 116]⟩, .string ⟨#[100, 101, 102, 97, 117, 108, 116]⟩, .string ⟨#[100, 101, 102, 101, 114]⟩, .string ⟨#[101, 108, 115, 101]⟩, .string ⟨#[102, 111, 114]⟩, .string ⟨#[102, 117, 110, 99]⟩, .string ⟨#[103, 111]⟩, .string ⟨#[103, 111, 116, 111]⟩, .string ⟨#[105, 102]⟩, .string ⟨#[105, 109, 112, 111, 114, 116]⟩, .string ⟨#[105, 110, 116, 101, 114, 102, 97, 99, 101]⟩, .string ⟨#[109, 97, 112]⟩, .string ⟨#[112, 97, 99, 107, 97, 103, 101]⟩, .string ⟨#[114, 97, 110, 103, 101]⟩, .string ⟨#[115, 101, 108, 101, 99, 116]⟩, .string ⟨#[115, 116, 114, 117, 99, 116]⟩, .string ⟨#[115, 119, 105, 116, 99, 104]⟩, .string ⟨#[116, 121, 112, 101]⟩, .string ⟨#[118, 97, 114]⟩] 9) = wa at *
  go_loopg [7] 21 (fun g iv wr => ∃ k : Nat, k + g = 21 ∧ iv = .int .i64 k ∧ Hid (∀ i, i < k → kwB[i]? ≠ some x) ∧ wr = wa)
  case atStart => exact ⟨0, by omega, rfl, Lib.hid (fun i h => by omega), rfl⟩
  case round =>
    obtain ⟨k, hkg, rfl, hno, rfl⟩ := hrel
    by_cases hk : k < 21
    · have hkI : (k : Int) < 21 := by omega
      obtain ⟨y, hy⟩ : ∃ y, kwB[k]? = some y := ⟨_, List.getElem?_eq_getElem (by omega)⟩
      have ck := HC.out k y hy
      have Hy := Lib.hid hy
      clear hy
      by_cases hxy : y = x
      · subst hxy
        have Hj := Lib.hid (HJ.out.2 ⟨k, Hy.out⟩)
        go_wp2_with fail
        go_ret
        exact ⟨by rw [Hj.out]; rfl, HB0.out⟩
      · have hne : (y.toList == x.toList) = false := by
          rw [beq_data]; exact decide_eq_false (fun h => hxy (ba_ext h))
        have Hno2 := Lib.hid (show ∀ i, i < k + 1 → kwB[i]? ≠ some x from fun i hi he => by
          by_cases h : i = k
          · subst h
            rw [Hy.out] at he
            injection he with he
            exact hxy he
          · exact hno.out i (by omega) he)
        clear hxy
        go_wp2_with fail
        go_roundg (gk - 1)
        case measure => omega
        case rel => exact ⟨k + 1, by omega, by go_num, Hno2, rfl⟩
    · have hkI : ¬ (k : Int) < 21 := by omega
      have Hj : Hid (jb = false) := Lib.hid (by
        apply Bool.eq_false_iff.2
        intro h
        obtain ⟨i, hi⟩ := HJ.out.1 h
        have := (List.getElem?_eq_some_iff.1 hi).1
        exact hno.out i (by omega) hi)
      go_wp2_with fail
      go_ret
      exact ⟨by rw [Hj.out]; rfl, HB0.out⟩
set_option maxRecDepth 100000 in
set_option maxHeartbeats 1000000 in
theorem feeds_any (k at_ : Nat) (x : ByteArray) (w : World) : Calls Tryd.prog 21 #[.agg #[.int .i64 k, .string x, .int .i64 at_]] w fun e w' => e = .returned (.bool (endsB (k, x, at_))) ∧ Below w.heap.size w w' := by
  have HB := Lib.hid ((Below.refl w.heap.size w).alloc (Nat.le_refl _) (.cells #[.int .i64 k, .string x, .int .i64 at_] 31))
  have hq := heap_alloc_new w (.cells #[.int .i64 k, .string x, .int .i64 at_] 31)
  have c0 := block_cell hq 0
  have c1 := block_cell hq 1
  clear hq
  rw [endsB_tok]
  rcases (by omega : k = 2 ∨ k = 3 ∨ k = 4 ∨ k = 1 ∨ k = 5 ∨ (k ≠ 1 ∧ k ≠ 2 ∧ k ≠ 3 ∧ k ≠ 4 ∧ k ≠ 5)) with rfl | rfl | rfl | rfl | rfl | ⟨n1, n2, n3, n4, n5⟩
  · go_enter Tryd.func21, Tryd.ntmps21
    go_wp2_with fail
    go_ret
    exact ⟨rfl, HB.out⟩
  · go_enter Tryd.func21, Tryd.ntmps21
    go_wp2_with fail
    go_ret
    exact ⟨rfl, HB.out⟩
  · go_enter Tryd.func21, Tryd.ntmps21
    go_wp2_with fail
    go_ret
    exact ⟨rfl, HB.out⟩
  · have HJ := Lib.hid (fun w1 => open_any x w1)
    generalize joinsB x = j at *
    go_enter Tryd.func21, Tryd.ntmps21
    go_wp2_with fail
    refine (HJ.out _).mono ?_
    rintro e w1 ⟨rfl, hB1⟩
    have HB2 := Lib.hid (HB.out.trans (hB1.mono HB.out.size))
    clear hB1
    go_wp2_with fail
    go_ret
    exact ⟨rfl, HB2.out⟩
  · have e : ends5.contains x.data.toList = ((x.toList == ([43, 43] : List UInt8)) || (x.toList == ([45, 45] : List UInt8)) || (x.toList == ([41] : List UInt8)) || (x.toList == ([93] : List UInt8)) || (x.toList == ([125] : List UInt8))) := by
      unfold ends5
      simp only [contains_or, List.contains_nil, Bool.or_false, Bool.or_assoc]
    rw [if_neg (by omega), if_neg (by omega), if_pos rfl, e]
    clear e
    obtain ⟨b0, h0⟩ : ∃ b, (x.toList == ([43, 43] : List UInt8)) = b := ⟨_, rfl⟩
    obtain ⟨b1, h1⟩ : ∃ b, (x.toList == ([45, 45] : List UInt8)) = b := ⟨_, rfl⟩
    obtain ⟨b2, h2⟩ : ∃ b, (x.toList == ([41] : List UInt8)) = b := ⟨_, rfl⟩
    obtain ⟨b3, h3⟩ : ∃ b, (x.toList == ([93] : List UInt8)) = b := ⟨_, rfl⟩
    obtain ⟨b4, h4⟩ : ∃ b, (x.toList == ([125] : List UInt8)) = b := ⟨_, rfl⟩
    rw [h0, h1, h2, h3, h4]
    cases b0 <;> cases b1 <;> cases b2 <;> cases b3 <;> cases b4 <;>
      (go_enter Tryd.func21, Tryd.ntmps21
       go_wp2_with fail
       go_ret
       exact ⟨rfl, HB.out⟩)
  · have e1 : ((k : Int) == 1) = false := beq_eq_false_iff_ne.2 (by omega)
    have e2 : ((k : Int) == 2) = false := beq_eq_false_iff_ne.2 (by omega)
    have e3 : ((k : Int) == 3) = false := beq_eq_false_iff_ne.2 (by omega)
    have e4 : ((k : Int) == 4) = false := beq_eq_false_iff_ne.2 (by omega)
    have e5 : ((k : Int) == 5) = false := beq_eq_false_iff_ne.2 (by omega)
    rw [if_neg (by omega), if_neg (by omega), if_neg (by omega)]
    go_enter Tryd.func21, Tryd.ntmps21
    go_wp2_with fail
    go_ret
    exact ⟨rfl, HB.out⟩
end Go.Proofs.YtejogobhnbjpdaaDoor
