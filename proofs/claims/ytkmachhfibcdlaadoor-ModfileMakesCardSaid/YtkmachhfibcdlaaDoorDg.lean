/- Walks: the statement ModfileOrder. -/
import Derived.Test.YtkmachhfibcdlaaDoorDf
namespace Go.Proofs.YtkmachhfibcdlaaDoor
set_option linter.unusedVariables false
set_option linter.unusedSimpArgs false
open Go.ChangeShapes Go.WideShapes Go.ChangeAt Go.RowKit

theorem conv_digit (w : World) (n : Nat) (hn : n ≤ 9) : (convert 32 9 (.slice (some ⟨w.heap.size, 0, none⟩) 1 1)).run Tryd.prog (w.alloc (.cells #[.int .u8 (48 + (n : Int))] 5)) = .ok (.string (mkB [UInt8.ofNat (48 + n)])) (w.alloc (.cells #[.int .u8 (48 + (n : Int))] 5)) := by
  refine run_convert_bytes_back _ 32 9 5 ⟨w.heap.size, 0, none⟩ 1 [UInt8.ofNat (48 + n)] Tryd.underlying32 Tryd.underlying5 Tryd.underlying9 (fun j hj => ?_)
  have hj0 : j = 0 := by simpa using hj
  subst hj0
  have h := block_cell (heap_alloc_new w (.cells #[.int .u8 (48 + (n : Int))] 5)) 0
  rw [gen_addr_zero, h]
  have e : ((UInt8.ofNat (48 + n)).toNat : Int) = 48 + (n : Int) := by
    rw [UInt8.toNat_ofNat']
    omega
  show some (Value.int .u8 (48 + (n : Int))) = _
  rw [← e]
  rfl
def pd (x : ByteArray) : Rp := (x, ⟨#[46, 47, 100]⟩)
theorem lnR_pd (x : ByteArray) : lnR (pd x) ++ [10] = [114, 101, 112, 108, 97, 99, 101, 32] ++ x.data.toList ++ [32, 61, 62, 32, 46, 47, 100, 10] := by
  show (wReplace.data.toList ++ 32 :: (x.data.toList ++ 32 :: (wArrow.data.toList ++ 32 :: [46, 47, 100]))) ++ [10] = _
  simp
theorem tx_app (A B : List (List UInt8)) : tx (A ++ B) = tx A ++ tx B := by unfold tx; rw [List.flatMap_append]
theorem tx_one (l : List UInt8) : tx [l] = l ++ [10] := by unfold tx; simp
set_option maxRecDepth 100000 in
set_option maxHeartbeats 1500000 in
theorem order_early (p : ByteArray) (lv : Int) (x2 : Option Addr) (n2 c2 : Nat) (x3 : Option Addr) (n3 c3 : Nat) (F O : List ByteArray) (w : World) (hE : Env w) (hp : p.size ≤ 140737488351232) (hF : Strs w (.slice x2 n2 c2) F) (zF : ∀ s ∈ F, s.size ≤ 140737488351232) (lF : F.length ≤ 9223372036854775807) (hO : Strs w (.slice x3 n3 c3) O) (zO : ∀ s ∈ O, s.size ≤ 140737488351232) (lO : O.length ≤ 9223372036854775807) (hbad : lv < 0 ∨ 9 < lv ∨ 20 < F.length ∨ 20 < O.length) :
    Calls Tryd.prog 5 #[.string p, .int .i64 lv, .slice x2 n2 c2, .slice x3 n3 c3] w fun e w' => e = .returned (.bool true) ∧ Below w.heap.size w w' := by
  obtain ⟨rfl, hqF⟩ := hF.cells
  obtain ⟨rfl, hqO⟩ := hO.cells
  have HA := Lib.hid (alive_any w hE)
  have HE := Lib.hid hE
  have HW := Lib.hid (fun w1 => word_any p w1 hp)
  have HzF := Lib.hid zF
  have HzO := Lib.hid zO
  have HqF := Lib.hid hqF
  have HqO := Lib.hid hqO
  clear hE zF zO hqF hqO hF hO
  by_cases hl0 : lv < 0
  · go_enter Tryd.func5, Tryd.ntmps5
    go_wp2_with fail
    refine HA.out.mono ?_
    rintro r w1 ⟨rfl, hB⟩
    have HB := Lib.hid hB
    clear hB
    go_wp2_with fail
    refine (HW.out _).mono ?_
    rintro r w2 ⟨⟨b, rfl, hb⟩, rfl⟩
    clear hb
    cases b
    · go_wp2_with fail
      go_ret
      exact ⟨rfl, HB.out⟩
    · go_wp2_with fail
      go_ret
      exact ⟨rfl, HB.out⟩
  by_cases hl9 : 9 < lv
  · go_enter Tryd.func5, Tryd.ntmps5
    go_wp2_with fail
    refine HA.out.mono ?_
    rintro r w1 ⟨rfl, hB⟩
    have HB := Lib.hid hB
    clear hB
    go_wp2_with fail
    refine (HW.out _).mono ?_
    rintro r w2 ⟨⟨b, rfl, hb⟩, rfl⟩
    clear hb
    cases b
    · go_wp2_with fail
      go_ret
      exact ⟨rfl, HB.out⟩
    · go_wp2_with fail
      go_ret
      exact ⟨rfl, HB.out⟩
  by_cases h20 : 20 < F.length
  · have h20I : (20 : Int) < (F.length : Int) := by omega
    go_enter Tryd.func5, Tryd.ntmps5
    go_wp2_with fail
    refine HA.out.mono ?_
    rintro r w1 ⟨rfl, hB⟩
    have HB := Lib.hid hB
    clear hB
    go_wp2_with fail
    refine (HW.out _).mono ?_
    rintro r w2 ⟨⟨b, rfl, hb⟩, rfl⟩
    clear hb
    cases b
    · go_wp2_with fail
      go_ret
      exact ⟨rfl, HB.out⟩
    · go_wp2_with fail
      go_ret
      exact ⟨rfl, HB.out⟩
  have h20I : ¬ (20 : Int) < (F.length : Int) := by omega
  by_cases h21 : 20 < O.length
  · have h21I : (20 : Int) < (O.length : Int) := by omega
    go_enter Tryd.func5, Tryd.ntmps5
    go_wp2_with fail
    refine HA.out.mono ?_
    rintro r w1 ⟨rfl, hB⟩
    have HB := Lib.hid hB
    clear hB
    go_wp2_with fail
    refine (HW.out _).mono ?_
    rintro r w2 ⟨⟨b, rfl, hb⟩, rfl⟩
    clear hb
    cases b
    · go_wp2_with fail
      go_ret
      exact ⟨rfl, HB.out⟩
    · go_wp2_with fail
      go_ret
      exact ⟨rfl, HB.out⟩
  omega
end Go.Proofs.YtkmachhfibcdlaaDoor
