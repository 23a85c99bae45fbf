/- Walks: what the document tells. -/
import Derived.Test.YtbenegkhekofmaaDoorJl
namespace Go.Proofs.YtbenegkhekofmaaDoor
set_option linter.unusedVariables false
open Go.ChangeShapes Go.WideShapes Go.ChangeAt Go.RowKit

theorem sha_abc : (hpre (shaL [97, 98, 99]) 64).take 16 = [98, 97, 55, 56, 49, 54, 98, 102, 56, 102, 48, 49, 99, 102, 101, 97] := by decide +kernel
theorem sha_nil : (hpre (shaL []) 64).take 16 = [101, 51, 98, 48, 99, 52, 52, 50, 57, 56, 102, 99, 49, 99, 49, 52] := by decide +kernel
theorem hexB_head (D : List Nat) : (hexB D).extract 0 16 = ⟨(((hpre D 64).take 16).map Nat.toUInt8).toArray⟩ := by
  apply ba_ext
  rw [Lib.extract_data]
  show List.take (16 - 0) (List.drop 0 ((hpre D 64).map Nat.toUInt8)) = ((hpre D 64).take 16).map Nat.toUInt8
  rw [List.drop_zero, ← List.map_take]

set_option maxHeartbeats 1000000 in
theorem alive_any (w : World) (hK : KeysAt w) :
    Calls Tryd.prog 8 #[] w fun e w' => e = .returned (.bool true) ∧ Below w.heap.size w w' := by
  have HK := Lib.hid hK
  clear hK
  have e1 : bytesL ⟨#[97, 98, 99]⟩ = [97, 98, 99] := rfl
  have e2 : bytesL ⟨#[]⟩ = [] := rfl
  have h1 := of_any ⟨#[97, 98, 99]⟩ w HK.out (by decide)
  rw [e1] at h1
  have h2 := fun w1 (hB : Below w.heap.size w w1) => of_any ⟨#[]⟩ w1 (HK.out.below HK.out.1 hB) (by decide)
  rw [e2] at h2
  have x1 := hexB_head (shaL [97, 98, 99])
  rw [sha_abc] at x1
  have x2 := hexB_head (shaL [])
  rw [sha_nil] at x2
  have g1 := fun w1 => hex_any (shaL [97, 98, 99]) w1 (shaL_len _) (shaL_small _)
  have g2 := fun w1 => hex_any (shaL []) w1 (shaL_len _) (shaL_small _)
  have z1 := hexB_size (shaL [97, 98, 99])
  have z2 := hexB_size (shaL [])
  have H1 := Lib.hid h1
  have H2 := Lib.hid h2
  have G1 := Lib.hid g1
  have G2 := Lib.hid g2
  clear h1 h2 g1 g2 e1 e2
  generalize hexB (shaL [97, 98, 99]) = a at *
  generalize hexB (shaL []) = b at *
  have X1 := Lib.hid x1
  have X2 := Lib.hid x2
  have Z1 := Lib.hid z1
  have Z2 := Lib.hid z2
  clear x1 x2 z1 z2
  go_enter Tryd.func8, Tryd.ntmps8
  go_wp2_with fail
  refine H1.out.mono ?_
  rintro e w1 ⟨rfl, hB1⟩
  go_wp2_with fail
  refine (G1.out _).mono ?_
  rintro e w2 ⟨rfl, hB2⟩
  have hb2 := hB1.trans (hB2.mono hB1.size)
  clear hB1 hB2
  go_wp2_with fail
  refine (H2.out _ hb2).mono ?_
  rintro e w3 ⟨rfl, hB3⟩
  have hb3 := hb2.trans (hB3.mono hb2.size)
  clear hb2 hB3
  go_wp2_with fail
  refine (G2.out _).mono ?_
  rintro e w4 ⟨rfl, hB4⟩
  have hb4 := hb3.trans (hB4.mono hb3.size)
  clear hb3 hB4 H1 H2 G1 G2
  have x1 := X1.out
  have x2 := X2.out
  have z1 := Z1.out
  have z2 := Z2.out
  go_wp2_with fail
  go_ret
  exact ⟨rfl, hb4⟩
end Go.Proofs.YtbenegkhekofmaaDoor
