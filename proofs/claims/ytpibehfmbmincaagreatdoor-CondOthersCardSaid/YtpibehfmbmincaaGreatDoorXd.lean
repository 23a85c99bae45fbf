/- Walks: the program's switches over known words. -/
import Derived.Test.YtpibehfmbmincaaGreatDoorXc
import Derived.Test.YtpibehfmbmincaaGreatDoorWi
namespace Go.Proofs.YtpibehfmbmincaaGreatDoor
set_option linter.unusedVariables false
open Go.ChangeShapes Go.WideShapes Go.ChangeAt Go.RowKit

theorem lit_eqQ {s : ByteArray} {l : List UInt8} (h : s = ⟨l.toArray⟩) : (s.toList == l) = true := by rw [h, Lib.toList_data]; simp
theorem lit_neQ {s : ByteArray} {l : List UInt8} (h : ¬ s = ⟨l.toArray⟩) : (s.toList == l) = false := by
  rw [beq_eq_false_iff_ne, Lib.toList_data]
  intro e
  exact h (ba_ext e)

set_option maxHeartbeats 800000 in
theorem unix_no (s : ByteArray) (w : World) (h0 : (s.toList == ([97, 105, 120] : List UInt8)) = false) (h1 : (s.toList == ([97, 110, 100, 114, 111, 105, 100] : List UInt8)) = false) (h2 : (s.toList == ([100, 97, 114, 119, 105, 110] : List UInt8)) = false) (h3 : (s.toList == ([100, 114, 97, 103, 111, 110, 102, 108, 121] : List UInt8)) = false) (h4 : (s.toList == ([102, 114, 101, 101, 98, 115, 100] : List UInt8)) = false) (h5 : (s.toList == ([105, 108, 108, 117, 109, 111, 115] : List UInt8)) = false) (h6 : (s.toList == ([105, 111, 115] : List UInt8)) = false) (h7 : (s.toList == ([108, 105, 110, 117, 120] : List UInt8)) = false) (h8 : (s.toList == ([110, 101, 116, 98, 115, 100] : List UInt8)) = false) (h9 : (s.toList == ([111, 112, 101, 110, 98, 115, 100] : List UInt8)) = false) (h10 : (s.toList == ([115, 111, 108, 97, 114, 105, 115] : List UInt8)) = false) :
    Calls Tryz.prog 13 #[.string s] w fun e w' => e = .returned (.bool false) ∧ w = w' := by
  go_enter Tryz.func13, Tryz.ntmps13
  go_wp2_with fail
  go_ret
  exact ⟨rfl, rfl⟩
set_option maxHeartbeats 800000 in
theorem unix_yes0 (s : ByteArray) (w : World)  (h0 : (s.toList == ([97, 105, 120] : List UInt8)) = true) :
    Calls Tryz.prog 13 #[.string s] w fun e w' => e = .returned (.bool true) ∧ w = w' := by
  go_enter Tryz.func13, Tryz.ntmps13
  go_wp2_with fail
  go_ret
  exact ⟨rfl, rfl⟩
set_option maxHeartbeats 800000 in
theorem unix_yes1 (s : ByteArray) (w : World) (h0 : (s.toList == ([97, 105, 120] : List UInt8)) = false) (h1 : (s.toList == ([97, 110, 100, 114, 111, 105, 100] : List UInt8)) = true) :
    Calls Tryz.prog 13 #[.string s] w fun e w' => e = .returned (.bool true) ∧ w = w' := by
  go_enter Tryz.func13, Tryz.ntmps13
  go_wp2_with fail
  go_ret
  exact ⟨rfl, rfl⟩
set_option maxHeartbeats 800000 in
theorem unix_yes2 (s : ByteArray) (w : World) (h0 : (s.toList == ([97, 105, 120] : List UInt8)) = false) (h1 : (s.toList == ([97, 110, 100, 114, 111, 105, 100] : List UInt8)) = false) (h2 : (s.toList == ([100, 97, 114, 119, 105, 110] : List UInt8)) = true) :
    Calls Tryz.prog 13 #[.string s] w fun e w' => e = .returned (.bool true) ∧ w = w' := by
  go_enter Tryz.func13, Tryz.ntmps13
  go_wp2_with fail
  go_ret
  exact ⟨rfl, rfl⟩
set_option maxHeartbeats 800000 in
theorem unix_yes3 (s : ByteArray) (w : World) (h0 : (s.toList == ([97, 105, 120] : List UInt8)) = false) (h1 : (s.toList == ([97, 110, 100, 114, 111, 105, 100] : List UInt8)) = false) (h2 : (s.toList == ([100, 97, 114, 119, 105, 110] : List UInt8)) = false) (h3 : (s.toList == ([100, 114, 97, 103, 111, 110, 102, 108, 121] : List UInt8)) = true) :
    Calls Tryz.prog 13 #[.string s] w fun e w' => e = .returned (.bool true) ∧ w = w' := by
  go_enter Tryz.func13, Tryz.ntmps13
  go_wp2_with fail
  go_ret
  exact ⟨rfl, rfl⟩
set_option maxHeartbeats 800000 in
theorem unix_yes4 (s : ByteArray) (w : World) (h0 : (s.toList == ([97, 105, 120] : List UInt8)) = false) (h1 : (s.toList == ([97, 110, 100, 114, 111, 105, 100] : List UInt8)) = false) (h2 : (s.toList == ([100, 97, 114, 119, 105, 110] : List UInt8)) = false) (h3 : (s.toList == ([100, 114, 97, 103, 111, 110, 102, 108, 121] : List UInt8)) = false) (h4 : (s.toList == ([102, 114, 101, 101, 98, 115, 100] : List UInt8)) = true) :
    Calls Tryz.prog 13 #[.string s] w fun e w' => e = .returned (.bool true) ∧ w = w' := by
  go_enter Tryz.func13, Tryz.ntmps13
  go_wp2_with fail
  go_ret
  exact ⟨rfl, rfl⟩
set_option maxHeartbeats 800000 in
theorem unix_yes5 (s : ByteArray) (w : World) (h0 : (s.toList == ([97, 105, 120] : List UInt8)) = false) (h1 : (s.toList == ([97, 110, 100, 114, 111, 105, 100] : List UInt8)) = false) (h2 : (s.toList == ([100, 97, 114, 119, 105, 110] : List UInt8)) = false) (h3 : (s.toList == ([100, 114, 97, 103, 111, 110, 102, 108, 121] : List UInt8)) = false) (h4 : (s.toList == ([102, 114, 101, 101, 98, 115, 100] : List UInt8)) = false) (h5 : (s.toList == ([105, 108, 108, 117, 109, 111, 115] : List UInt8)) = true) :
    Calls Tryz.prog 13 #[.string s] w fun e w' => e = .returned (.bool true) ∧ w = w' := by
  go_enter Tryz.func13, Tryz.ntmps13
  go_wp2_with fail
  go_ret
  exact ⟨rfl, rfl⟩
set_option maxHeartbeats 800000 in
theorem unix_yes6 (s : ByteArray) (w : World) (h0 : (s.toList == ([97, 105, 120] : List UInt8)) = false) (h1 : (s.toList == ([97, 110, 100, 114, 111, 105, 100] : List UInt8)) = false) (h2 : (s.toList == ([100, 97, 114, 119, 105, 110] : List UInt8)) = false) (h3 : (s.toList == ([100, 114, 97, 103, 111, 110, 102, 108, 121] : List UInt8)) = false) (h4 : (s.toList == ([102, 114, 101, 101, 98, 115, 100] : List UInt8)) = false) (h5 : (s.toList == ([105, 108, 108, 117, 109, 111, 115] : List UInt8)) = false) (h6 : (s.toList == ([105, 111, 115] : List UInt8)) = true) :
    Calls Tryz.prog 13 #[.string s] w fun e w' => e = .returned (.bool true) ∧ w = w' := by
  go_enter Tryz.func13, Tryz.ntmps13
  go_wp2_with fail
  go_ret
  exact ⟨rfl, rfl⟩
set_option maxHeartbeats 800000 in
theorem unix_yes7 (s : ByteArray) (w : World) (h0 : (s.toList == ([97, 105, 120] : List UInt8)) = false) (h1 : (s.toList == ([97, 110, 100, 114, 111, 105, 100] : List UInt8)) = false) (h2 : (s.toList == ([100, 97, 114, 119, 105, 110] : List UInt8)) = false) (h3 : (s.toList == ([100, 114, 97, 103, 111, 110, 102, 108, 121] : List UInt8)) = false) (h4 : (s.toList == ([102, 114, 101, 101, 98, 115, 100] : List UInt8)) = false) (h5 : (s.toList == ([105, 108, 108, 117, 109, 111, 115] : List UInt8)) = false) (h6 : (s.toList == ([105, 111, 115] : List UInt8)) = false) (h7 : (s.toList == ([108, 105, 110, 117, 120] : List UInt8)) = true) :
    Calls Tryz.prog 13 #[.string s] w fun e w' => e = .returned (.bool true) ∧ w = w' := by
  go_enter Tryz.func13, Tryz.ntmps13
  go_wp2_with fail
  go_ret
  exact ⟨rfl, rfl⟩
set_option maxHeartbeats 800000 in
theorem unix_yes8 (s : ByteArray) (w : World) (h0 : (s.toList == ([97, 105, 120] : List UInt8)) = false) (h1 : (s.toList == ([97, 110, 100, 114, 111, 105, 100] : List UInt8)) = false) (h2 : (s.toList == ([100, 97, 114, 119, 105, 110] : List UInt8)) = false) (h3 : (s.toList == ([100, 114, 97, 103, 111, 110, 102, 108, 121] : List UInt8)) = false) (h4 : (s.toList == ([102, 114, 101, 101, 98, 115, 100] : List UInt8)) = false) (h5 : (s.toList == ([105, 108, 108, 117, 109, 111, 115] : List UInt8)) = false) (h6 : (s.toList == ([105, 111, 115] : List UInt8)) = false) (h7 : (s.toList == ([108, 105, 110, 117, 120] : List UInt8)) = false) (h8 : (s.toList == ([110, 101, 116, 98, 115, 100] : List UInt8)) = true) :
    Calls Tryz.prog 13 #[.string s] w fun e w' => e = .returned (.bool true) ∧ w = w' := by
  go_enter Tryz.func13, Tryz.ntmps13
  go_wp2_with fail
  go_ret
  exact ⟨rfl, rfl⟩
set_option maxHeartbeats 800000 in
theorem unix_yes9 (s : ByteArray) (w : World) (h0 : (s.toList == ([97, 105, 120] : List UInt8)) = false) (h1 : (s.toList == ([97, 110, 100, 114, 111, 105, 100] : List UInt8)) = false) (h2 : (s.toList == ([100, 97, 114, 119, 105, 110] : List UInt8)) = false) (h3 : (s.toList == ([100, 114, 97, 103, 111, 110, 102, 108, 121] : List UInt8)) = false) (h4 : (s.toList == ([102, 114, 101, 101, 98, 115, 100] : List UInt8)) = false) (h5 : (s.toList == ([105, 108, 108, 117, 109, 111, 115] : List UInt8)) = false) (h6 : (s.toList == ([105, 111, 115] : List UInt8)) = false) (h7 : (s.toList == ([108, 105, 110, 117, 120] : List UInt8)) = false) (h8 : (s.toList == ([110, 101, 116, 98, 115, 100] : List UInt8)) = false) (h9 : (s.toList == ([111, 112, 101, 110, 98, 115, 100] : List UInt8)) = true) :
    Calls Tryz.prog 13 #[.string s] w fun e w' => e = .returned (.bool true) ∧ w = w' := by
  go_enter Tryz.func13, Tryz.ntmps13
  go_wp2_with fail
  go_ret
  exact ⟨rfl, rfl⟩
set_option maxHeartbeats 800000 in
theorem unix_yes10 (s : ByteArray) (w : World) (h0 : (s.toList == ([97, 105, 120] : List UInt8)) = false) (h1 : (s.toList == ([97, 110, 100, 114, 111, 105, 100] : List UInt8)) = false) (h2 : (s.toList == ([100, 97, 114, 119, 105, 110] : List UInt8)) = false) (h3 : (s.toList == ([100, 114, 97, 103, 111, 110, 102, 108, 121] : List UInt8)) = false) (h4 : (s.toList == ([102, 114, 101, 101, 98, 115, 100] : List UInt8)) = false) (h5 : (s.toList == ([105, 108, 108, 117, 109, 111, 115] : List UInt8)) = false) (h6 : (s.toList == ([105, 111, 115] : List UInt8)) = false) (h7 : (s.toList == ([108, 105, 110, 117, 120] : List UInt8)) = false) (h8 : (s.toList == ([110, 101, 116, 98, 115, 100] : List UInt8)) = false) (h9 : (s.toList == ([111, 112, 101, 110, 98, 115, 100] : List UInt8)) = false) (h10 : (s.toList == ([115, 111, 108, 97, 114, 105, 115] : List UInt8)) = true) :
    Calls Tryz.prog 13 #[.string s] w fun e w' => e = .returned (.bool true) ∧ w = w' := by
  go_enter Tryz.func13, Tryz.ntmps13
  go_wp2_with fail
  go_ret
  exact ⟨rfl, rfl⟩
theorem unix_any (s : ByteArray) (w : World) : Calls Tryz.prog 13 #[.string s] w fun e w' => e = .returned (.bool (inB unixL s)) ∧ w = w' := by
  by_cases c0 : s = (⟨[97, 105, 120].toArray⟩ : ByteArray)
  · have e : inB unixL s = true := by rw [c0]; decide +kernel
    rw [e]
    exact unix_yes0 s w  (lit_eqQ c0)
  by_cases c1 : s = (⟨[97, 110, 100, 114, 111, 105, 100].toArray⟩ : ByteArray)
  · have e : inB unixL s = true := by rw [c1]; decide +kernel
    rw [e]
    exact unix_yes1 s w (lit_neQ c0) (lit_eqQ c1)
  by_cases c2 : s = (⟨[100, 97, 114, 119, 105, 110].toArray⟩ : ByteArray)
  · have e : inB unixL s = true := by rw [c2]; decide +kernel
    rw [e]
    exact unix_yes2 s w (lit_neQ c0) (lit_neQ c1) (lit_eqQ c2)
  by_cases c3 : s = (⟨[100, 114, 97, 103, 111, 110, 102, 108, 121].toArray⟩ : ByteArray)
  · have e : inB unixL s = true := by rw [c3]; decide +kernel
    rw [e]
    exact unix_yes3 s w (lit_neQ c0) (lit_neQ c1) (lit_neQ c2) (lit_eqQ c3)
  by_cases c4 : s = (⟨[102, 114, 101, 101, 98, 115, 100].toArray⟩ : ByteArray)
  · have e : inB unixL s = true := by rw [c4]; decide +kernel
    rw [e]
    exact unix_yes4 s w (lit_neQ c0) (lit_neQ c1) (lit_neQ c2) (lit_neQ c3) (lit_eqQ c4)
  by_cases c5 : s = (⟨[105, 108, 108, 117, 109, 111, 115].toArray⟩ : ByteArray)
  · have e : inB unixL s = true := by rw [c5]; decide +kernel
    rw [e]
    exact unix_yes5 s w (lit_neQ c0) (lit_neQ c1) (lit_neQ c2) (lit_neQ c3) (lit_neQ c4) (lit_eqQ c5)
  by_cases c6 : s = (⟨[105, 111, 115].toArray⟩ : ByteArray)
  · have e : inB unixL s = true := by rw [c6]; decide +kernel
    rw [e]
    exact unix_yes6 s w (lit_neQ c0) (lit_neQ c1) (lit_neQ c2) (lit_neQ c3) (lit_neQ c4) (lit_neQ c5) (lit_eqQ c6)
  by_cases c7 : s = (⟨[108, 105, 110, 117, 120].toArray⟩ : ByteArray)
  · have e : inB unixL s = true := by rw [c7]; decide +kernel
    rw [e]
    exact unix_yes7 s w (lit_neQ c0) (lit_neQ c1) (lit_neQ c2) (lit_neQ c3) (lit_neQ c4) (lit_neQ c5) (lit_neQ c6) (lit_eqQ c7)
  by_cases c8 : s = (⟨[110, 101, 116, 98, 115, 100].toArray⟩ : ByteArray)
  · have e : inB unixL s = true := by rw [c8]; decide +kernel
    rw [e]
    exact unix_yes8 s w (lit_neQ c0) (lit_neQ c1) (lit_neQ c2) (lit_neQ c3) (lit_neQ c4) (lit_neQ c5) (lit_neQ c6) (lit_neQ c7) (lit_eqQ c8)
  by_cases c9 : s = (⟨[111, 112, 101, 110, 98, 115, 100].toArray⟩ : ByteArray)
  · have e : inB unixL s = true := by rw [c9]; decide +kernel
    rw [e]
    exact unix_yes9 s w (lit_neQ c0) (lit_neQ c1) (lit_neQ c2) (lit_neQ c3) (lit_neQ c4) (lit_neQ c5) (lit_neQ c6) (lit_neQ c7) (lit_neQ c8) (lit_eqQ c9)
  by_cases c10 : s = (⟨[115, 111, 108, 97, 114, 105, 115].toArray⟩ : ByteArray)
  · have e : inB unixL s = true := by rw [c10]; decide +kernel
    rw [e]
    exact unix_yes10 s w (lit_neQ c0) (lit_neQ c1) (lit_neQ c2) (lit_neQ c3) (lit_neQ c4) (lit_neQ c5) (lit_neQ c6) (lit_neQ c7) (lit_neQ c8) (lit_neQ c9) (lit_eqQ c10)
  have e : inB unixL s = false := by
    rw [inB_not]
    intro h
    simp only [unixL, List.mem_cons, List.not_mem_nil, or_false] at h
    rcases h with h | h | h | h | h | h | h | h | h | h | h
    · exact c0 (h.trans (by decide +kernel))
    · exact c1 (h.trans (by decide +kernel))
    · exact c2 (h.trans (by decide +kernel))
    · exact c3 (h.trans (by decide +kernel))
    · exact c4 (h.trans (by decide +kernel))
    · exact c5 (h.trans (by decide +kernel))
    · exact c6 (h.trans (by decide +kernel))
    · exact c7 (h.trans (by decide +kernel))
    · exact c8 (h.trans (by decide +kernel))
    · exact c9 (h.trans (by decide +kernel))
    · exact c10 (h.trans (by decide +kernel))
  rw [e]
  exact unix_no s w (lit_neQ c0) (lit_neQ c1) (lit_neQ c2) (lit_neQ c3) (lit_neQ c4) (lit_neQ c5) (lit_neQ c6) (lit_neQ c7) (lit_neQ c8) (lit_neQ c9) (lit_neQ c10)
set_option maxHeartbeats 800000 in
theorem proc_no (s : ByteArray) (w : World) (h0 : (s.toList == ([51, 56, 54] : List UInt8)) = false) (h1 : (s.toList == ([97, 109, 100, 54, 52] : List UInt8)) = false) (h2 : (s.toList == ([97, 114, 109] : List UInt8)) = false) (h3 : (s.toList == ([97, 114, 109, 54, 52] : List UInt8)) = false) (h4 : (s.toList == ([108, 111, 111, 110, 103, 54, 52] : List UInt8)) = false) (h5 : (s.toList == ([109, 105, 112, 115] : List UInt8)) = false) (h6 : (s.toList == ([109, 105, 112, 115, 54, 52] : List UInt8)) = false) (h7 : (s.toList == ([109, 105, 112, 115, 54, 52, 108, 101] : List UInt8)) = false) (h8 : (s.toList == ([109, 105, 112, 115, 108, 101] : List UInt8)) = false) (h9 : (s.toList == ([112, 112, 99, 54, 52] : List UInt8)) = false) (h10 : (s.toList == ([112, 112, 99, 54, 52, 108, 101] : List UInt8)) = false) (h11 : (s.toList == ([114, 105, 115, 99, 118, 54, 52] : List UInt8)) = false) (h12 : (s.toList == ([115, 51, 57, 48, 120] : List UInt8)) = false) (h13 : (s.toList == ([119, 97, 115, 109] : List UInt8)) = false) :
    Calls Tryz.prog 32 #[.string s] w fun e w' => e = .returned (.bool false) ∧ w = w' := by
  go_enter Tryz.func32, Tryz.ntmps32
  go_wp2_with fail
  go_ret
  exact ⟨rfl, rfl⟩
set_option maxHeartbeats 800000 in
theorem proc_yes0 (s : ByteArray) (w : World)  (h0 : (s.toList == ([51, 56, 54] : List UInt8)) = true) :
    Calls Tryz.prog 32 #[.string s] w fun e w' => e = .returned (.bool true) ∧ w = w' := by
  go_enter Tryz.func32, Tryz.ntmps32
  go_wp2_with fail
  go_ret
  exact ⟨rfl, rfl⟩
set_option maxHeartbeats 800000 in
theorem proc_yes1 (s : ByteArray) (w : World) (h0 : (s.toList == ([51, 56, 54] : List UInt8)) = false) (h1 : (s.toList == ([97, 109, 100, 54, 52] : List UInt8)) = true) :
    Calls Tryz.prog 32 #[.string s] w fun e w' => e = .returned (.bool true) ∧ w = w' := by
  go_enter Tryz.func32, Tryz.ntmps32
  go_wp2_with fail
  go_ret
  exact ⟨rfl, rfl⟩
set_option maxHeartbeats 800000 in
theorem proc_yes2 (s : ByteArray) (w : World) (h0 : (s.toList == ([51, 56, 54] : List UInt8)) = false) (h1 : (s.toList == ([97, 109, 100, 54, 52] : List UInt8)) = false) (h2 : (s.toList == ([97, 114, 109] : List UInt8)) = true) :
    Calls Tryz.prog 32 #[.string s] w fun e w' => e = .returned (.bool true) ∧ w = w' := by
  go_enter Tryz.func32, Tryz.ntmps32
  go_wp2_with fail
  go_ret
  exact ⟨rfl, rfl⟩
set_option maxHeartbeats 800000 in
theorem proc_yes3 (s : ByteArray) (w : World) (h0 : (s.toList == ([51, 56, 54] : List UInt8)) = false) (h1 : (s.toList == ([97, 109, 100, 54, 52] : List UInt8)) = false) (h2 : (s.toList == ([97, 114, 109] : List UInt8)) = false) (h3 : (s.toList == ([97, 114, 109, 54, 52] : List UInt8)) = true) :
    Calls Tryz.prog 32 #[.string s] w fun e w' => e = .returned (.bool true) ∧ w = w' := by
  go_enter Tryz.func32, Tryz.ntmps32
  go_wp2_with fail
  go_ret
  exact ⟨rfl, rfl⟩
set_option maxHeartbeats 800000 in
theorem proc_yes4 (s : ByteArray) (w : World) (h0 : (s.toList == ([51, 56, 54] : List UInt8)) = false) (h1 : (s.toList == ([97, 109, 100, 54, 52] : List UInt8)) = false) (h2 : (s.toList == ([97, 114, 109] : List UInt8)) = false) (h3 : (s.toList == ([97, 114, 109, 54, 52] : List UInt8)) = false) (h4 : (s.toList == ([108, 111, 111, 110, 103, 54, 52] : List UInt8)) = true) :
    Calls Tryz.prog 32 #[.string s] w fun e w' => e = .returned (.bool true) ∧ w = w' := by
  go_enter Tryz.func32, Tryz.ntmps32
  go_wp2_with fail
  go_ret
  exact ⟨rfl, rfl⟩
set_option maxHeartbeats 800000 in
theorem proc_yes5 (s : ByteArray) (w : World) (h0 : (s.toList == ([51, 56, 54] : List UInt8)) = false) (h1 : (s.toList == ([97, 109, 100, 54, 52] : List UInt8)) = false) (h2 : (s.toList == ([97, 114, 109] : List UInt8)) = false) (h3 : (s.toList == ([97, 114, 109, 54, 52] : List UInt8)) = false) (h4 : (s.toList == ([108, 111, 111, 110, 103, 54, 52] : List UInt8)) = false) (h5 : (s.toList == ([109, 105, 112, 115] : List UInt8)) = true) :
    Calls Tryz.prog 32 #[.string s] w fun e w' => e = .returned (.bool true) ∧ w = w' := by
  go_enter Tryz.func32, Tryz.ntmps32
  go_wp2_with fail
  go_ret
  exact ⟨rfl, rfl⟩
set_option maxHeartbeats 800000 in
theorem proc_yes6 (s : ByteArray) (w : World) (h0 : (s.toList == ([51, 56, 54] : List UInt8)) = false) (h1 : (s.toList == ([97, 109, 100, 54, 52] : List UInt8)) = false) (h2 : (s.toList == ([97, 114, 109] : List UInt8)) = false) (h3 : (s.toList == ([97, 114, 109, 54, 52] : List UInt8)) = false) (h4 : (s.toList == ([108, 111, 111, 110, 103, 54, 52] : List UInt8)) = false) (h5 : (s.toList == ([109, 105, 112, 115] : List UInt8)) = false) (h6 : (s.toList == ([109, 105, 112, 115, 54, 52] : List UInt8)) = true) :
    Calls Tryz.prog 32 #[.string s] w fun e w' => e = .returned (.bool true) ∧ w = w' := by
  go_enter Tryz.func32, Tryz.ntmps32
  go_wp2_with fail
  go_ret
  exact ⟨rfl, rfl⟩
set_option maxHeartbeats 800000 in
theorem proc_yes7 (s : ByteArray) (w : World) (h0 : (s.toList == ([51, 56, 54] : List UInt8)) = false) (h1 : (s.toList == ([97, 109, 100, 54, 52] : List UInt8)) = false) (h2 : (s.toList == ([97, 114, 109] : List UInt8)) = false) (h3 : (s.toList == ([97, 114, 109, 54, 52] : List UInt8)) = false) (h4 : (s.toList == ([108, 111, 111, 110, 103, 54, 52] : List UInt8)) = false) (h5 : (s.toList == ([109, 105, 112, 115] : List UInt8)) = false) (h6 : (s.toList == ([109, 105, 112, 115, 54, 52] : List UInt8)) = false) (h7 : (s.toList == ([109, 105, 112, 115, 54, 52, 108, 101] : List UInt8)) = true) :
    Calls Tryz.prog 32 #[.string s] w fun e w' => e = .returned (.bool true) ∧ w = w' := by
  go_enter Tryz.func32, Tryz.ntmps32
  go_wp2_with fail
  go_ret
  exact ⟨rfl, rfl⟩
set_option maxHeartbeats 800000 in
theorem proc_yes8 (s : ByteArray) (w : World) (h0 : (s.toList == ([51, 56, 54] : List UInt8)) = false) (h1 : (s.toList == ([97, 109, 100, 54, 52] : List UInt8)) = false) (h2 : (s.toList == ([97, 114, 109] : List UInt8)) = false) (h3 : (s.toList == ([97, 114, 109, 54, 52] : List UInt8)) = false) (h4 : (s.toList == ([108, 111, 111, 110, 103, 54, 52] : List UInt8)) = false) (h5 : (s.toList == ([109, 105, 112, 115] : List UInt8)) = false) (h6 : (s.toList == ([109, 105, 112, 115, 54, 52] : List UInt8)) = false) (h7 : (s.toList == ([109, 105, 112, 115, 54, 52, 108, 101] : List UInt8)) = false) (h8 : (s.toList == ([109, 105, 112, 115, 108, 101] : List UInt8)) = true) :
    Calls Tryz.prog 32 #[.string s] w fun e w' => e = .returned (.bool true) ∧ w = w' := by
  go_enter Tryz.func32, Tryz.ntmps32
  go_wp2_with fail
  go_ret
  exact ⟨rfl, rfl⟩
set_option maxHeartbeats 800000 in
theorem proc_yes9 (s : ByteArray) (w : World) (h0 : (s.toList == ([51, 56, 54] : List UInt8)) = false) (h1 : (s.toList == ([97, 109, 100, 54, 52] : List UInt8)) = false) (h2 : (s.toList == ([97, 114, 109] : List UInt8)) = false) (h3 : (s.toList == ([97, 114, 109, 54, 52] : List UInt8)) = false) (h4 : (s.toList == ([108, 111, 111, 110, 103, 54, 52] : List UInt8)) = false) (h5 : (s.toList == ([109, 105, 112, 115] : List UInt8)) = false) (h6 : (s.toList == ([109, 105, 112, 115, 54, 52] : List UInt8)) = false) (h7 : (s.toList == ([109, 105, 112, 115, 54, 52, 108, 101] : List UInt8)) = false) (h8 : (s.toList == ([109, 105, 112, 115, 108, 101] : List UInt8)) = false) (h9 : (s.toList == ([112, 112, 99, 54, 52] : List UInt8)) = true) :
    Calls Tryz.prog 32 #[.string s] w fun e w' => e = .returned (.bool true) ∧ w = w' := by
  go_enter Tryz.func32, Tryz.ntmps32
  go_wp2_with fail
  go_ret
  exact ⟨rfl, rfl⟩
set_option maxHeartbeats 800000 in
theorem proc_yes10 (s : ByteArray) (w : World) (h0 : (s.toList == ([51, 56, 54] : List UInt8)) = false) (h1 : (s.toList == ([97, 109, 100, 54, 52] : List UInt8)) = false) (h2 : (s.toList == ([97, 114, 109] : List UInt8)) = false) (h3 : (s.toList == ([97, 114, 109, 54, 52] : List UInt8)) = false) (h4 : (s.toList == ([108, 111, 111, 110, 103, 54, 52] : List UInt8)) = false) (h5 : (s.toList == ([109, 105, 112, 115] : List UInt8)) = false) (h6 : (s.toList == ([109, 105, 112, 115, 54, 52] : List UInt8)) = false) (h7 : (s.toList == ([109, 105, 112, 115, 54, 52, 108, 101] : List UInt8)) = false) (h8 : (s.toList == ([109, 105, 112, 115, 108, 101] : List UInt8)) = false) (h9 : (s.toList == ([112, 112, 99, 54, 52] : List UInt8)) = false) (h10 : (s.toList == ([112, 112, 99, 54, 52, 108, 101] : List UInt8)) = true) :
    Calls Tryz.prog 32 #[.string s] w fun e w' => e = .returned (.bool true) ∧ w = w' := by
  go_enter Tryz.func32, Tryz.ntmps32
  go_wp2_with fail
  go_ret
  exact ⟨rfl, rfl⟩
set_option maxHeartbeats 800000 in
theorem proc_yes11 (s : ByteArray) (w : World) (h0 : (s.toList == ([51, 56, 54] : List UInt8)) = false) (h1 : (s.toList == ([97, 109, 100, 54, 52] : List UInt8)) = false) (h2 : (s.toList == ([97, 114, 109] : List UInt8)) = false) (h3 : (s.toList == ([97, 114, 109, 54, 52] : List UInt8)) = false) (h4 : (s.toList == ([108, 111, 111, 110, 103, 54, 52] : List UInt8)) = false) (h5 : (s.toList == ([109, 105, 112, 115] : List UInt8)) = false) (h6 : (s.toList == ([109, 105, 112, 115, 54, 52] : List UInt8)) = false) (h7 : (s.toList == ([109, 105, 112, 115, 54, 52, 108, 101] : List UInt8)) = false) (h8 : (s.toList == ([109, 105, 112, 115, 108, 101] : List UInt8)) = false) (h9 : (s.toList == ([112, 112, 99, 54, 52] : List UInt8)) = false) (h10 : (s.toList == ([112, 112, 99, 54, 52, 108, 101] : List UInt8)) = false) (h11 : (s.toList == ([114, 105, 115, 99, 118, 54, 52] : List UInt8)) = true) :
    Calls Tryz.prog 32 #[.string s] w fun e w' => e = .returned (.bool true) ∧ w = w' := by
  go_enter Tryz.func32, Tryz.ntmps32
  go_wp2_with fail
  go_ret
  exact ⟨rfl, rfl⟩
set_option maxHeartbeats 800000 in
theorem proc_yes12 (s : ByteArray) (w : World) (h0 : (s.toList == ([51, 56, 54] : List UInt8)) = false) (h1 : (s.toList == ([97, 109, 100, 54, 52] : List UInt8)) = false) (h2 : (s.toList == ([97, 114, 109] : List UInt8)) = false) (h3 : (s.toList == ([97, 114, 109, 54, 52] : List UInt8)) = false) (h4 : (s.toList == ([108, 111, 111, 110, 103, 54, 52] : List UInt8)) = false) (h5 : (s.toList == ([109, 105, 112, 115] : List UInt8)) = false) (h6 : (s.toList == ([109, 105, 112, 115, 54, 52] : List UInt8)) = false) (h7 : (s.toList == ([109, 105, 112, 115, 54, 52, 108, 101] : List UInt8)) = false) (h8 : (s.toList == ([109, 105, 112, 115, 108, 101] : List UInt8)) = false) (h9 : (s.toList == ([112, 112, 99, 54, 52] : List UInt8)) = false) (h10 : (s.toList == ([112, 112, 99, 54, 52, 108, 101] : List UInt8)) = false) (h11 : (s.toList == ([114, 105, 115, 99, 118, 54, 52] : List UInt8)) = false) (h12 : (s.toList == ([115, 51, 57, 48, 120] : List UInt8)) = true) :
    Calls Tryz.prog 32 #[.string s] w fun e w' => e = .returned (.bool true) ∧ w = w' := by
  go_enter Tryz.func32, Tryz.ntmps32
  go_wp2_with fail
  go_ret
  exact ⟨rfl, rfl⟩
set_option maxHeartbeats 800000 in
theorem proc_yes13 (s : ByteArray) (w : World) (h0 : (s.toList == ([51, 56, 54] : List UInt8)) = false) (h1 : (s.toList == ([97, 109, 100, 54, 52] : List UInt8)) = false) (h2 : (s.toList == ([97, 114, 109] : List UInt8)) = false) (h3 : (s.toList == ([97, 114, 109, 54, 52] : List UInt8)) = false) (h4 : (s.toList == ([108, 111, 111, 110, 103, 54, 52] : List UInt8)) = false) (h5 : (s.toList == ([109, 105, 112, 115] : List UInt8)) = false) (h6 : (s.toList == ([109, 105, 112, 115, 54, 52] : List UInt8)) = false) (h7 : (s.toList == ([109, 105, 112, 115, 54, 52, 108, 101] : List UInt8)) = false) (h8 : (s.toList == ([109, 105, 112, 115, 108, 101] : List UInt8)) = false) (h9 : (s.toList == ([112, 112, 99, 54, 52] : List UInt8)) = false) (h10 : (s.toList == ([112, 112, 99, 54, 52, 108, 101] : List UInt8)) = false) (h11 : (s.toList == ([114, 105, 115, 99, 118, 54, 52] : List UInt8)) = false) (h12 : (s.toList == ([115, 51, 57, 48, 120] : List UInt8)) = false) (h13 : (s.toList == ([119, 97, 115, 109] : List UInt8)) = true) :
    Calls Tryz.prog 32 #[.string s] w fun e w' => e = .returned (.bool true) ∧ w = w' := by
  go_enter Tryz.func32, Tryz.ntmps32
  go_wp2_with fail
  go_ret
  exact ⟨rfl, rfl⟩
theorem proc_any (s : ByteArray) (w : World) : Calls Tryz.prog 32 #[.string s] w fun e w' => e = .returned (.bool (inB procL s)) ∧ w = w' := by
  by_cases c0 : s = (⟨[51, 56, 54].toArray⟩ : ByteArray)
  · have e : inB procL s = true := by rw [c0]; decide +kernel
    rw [e]
    exact proc_yes0 s w  (lit_eqQ c0)
  by_cases c1 : s = (⟨[97, 109, 100, 54, 52].toArray⟩ : ByteArray)
  · have e : inB procL s = true := by rw [c1]; decide +kernel
    rw [e]
    exact proc_yes1 s w (lit_neQ c0) (lit_eqQ c1)
  by_cases c2 : s = (⟨[97, 114, 109].toArray⟩ : ByteArray)
  · have e : inB procL s = true := by rw [c2]; decide +kernel
    rw [e]
    exact proc_yes2 s w (lit_neQ c0) (lit_neQ c1) (lit_eqQ c2)
  by_cases c3 : s = (⟨[97, 114, 109, 54, 52].toArray⟩ : ByteArray)
  · have e : inB procL s = true := by rw [c3]; decide +kernel
    rw [e]
    exact proc_yes3 s w (lit_neQ c0) (lit_neQ c1) (lit_neQ c2) (lit_eqQ c3)
  by_cases c4 : s = (⟨[108, 111, 111, 110, 103, 54, 52].toArray⟩ : ByteArray)
  · have e : inB procL s = true := by rw [c4]; decide +kernel
    rw [e]
    exact proc_yes4 s w (lit_neQ c0) (lit_neQ c1) (lit_neQ c2) (lit_neQ c3) (lit_eqQ c4)
  by_cases c5 : s = (⟨[109, 105, 112, 115].toArray⟩ : ByteArray)
  · have e : inB procL s = true := by rw [c5]; decide +kernel
    rw [e]
    exact proc_yes5 s w (lit_neQ c0) (lit_neQ c1) (lit_neQ c2) (lit_neQ c3) (lit_neQ c4) (lit_eqQ c5)
  by_cases c6 : s = (⟨[109, 105, 112, 115, 54, 52].toArray⟩ : ByteArray)
  · have e : inB procL s = true := by rw [c6]; decide +kernel
    rw [e]
    exact proc_yes6 s w (lit_neQ c0) (lit_neQ c1) (lit_neQ c2) (lit_neQ c3) (lit_neQ c4) (lit_neQ c5) (lit_eqQ c6)
  by_cases c7 : s = (⟨[109, 105, 112, 115, 54, 52, 108, 101].toArray⟩ : ByteArray)
  · have e : inB procL s = true := by rw [c7]; decide +kernel
    rw [e]
    exact proc_yes7 s w (lit_neQ c0) (lit_neQ c1) (lit_neQ c2) (lit_neQ c3) (lit_neQ c4) (lit_neQ c5) (lit_neQ c6) (lit_eqQ c7)
  by_cases c8 : s = (⟨[109, 105, 112, 115, 108, 101].toArray⟩ : ByteArray)
  · have e : inB procL s = true := by rw [c8]; decide +kernel
    rw [e]
    exact proc_yes8 s w (lit_neQ c0) (lit_neQ c1) (lit_neQ c2) (lit_neQ c3) (lit_neQ c4) (lit_neQ c5) (lit_neQ c6) (lit_neQ c7) (lit_eqQ c8)
  by_cases c9 : s = (⟨[112, 112, 99, 54, 52].toArray⟩ : ByteArray)
  · have e : inB procL s = true := by rw [c9]; decide +kernel
    rw [e]
    exact proc_yes9 s w (lit_neQ c0) (lit_neQ c1) (lit_neQ c2) (lit_neQ c3) (lit_neQ c4) (lit_neQ c5) (lit_neQ c6) (lit_neQ c7) (lit_neQ c8) (lit_eqQ c9)
  by_cases c10 : s = (⟨[112, 112, 99, 54, 52, 108, 101].toArray⟩ : ByteArray)
  · have e : inB procL s = true := by rw [c10]; decide +kernel
    rw [e]
    exact proc_yes10 s w (lit_neQ c0) (lit_neQ c1) (lit_neQ c2) (lit_neQ c3) (lit_neQ c4) (lit_neQ c5) (lit_neQ c6) (lit_neQ c7) (lit_neQ c8) (lit_neQ c9) (lit_eqQ c10)
  by_cases c11 : s = (⟨[114, 105, 115, 99, 118, 54, 52].toArray⟩ : ByteArray)
  · have e : inB procL s = true := by rw [c11]; decide +kernel
    rw [e]
    exact proc_yes11 s w (lit_neQ c0) (lit_neQ c1) (lit_neQ c2) (lit_neQ c3) (lit_neQ c4) (lit_neQ c5) (lit_neQ c6) (lit_neQ c7) (lit_neQ c8) (lit_neQ c9) (lit_neQ c10) (lit_eqQ c11)
  by_cases c12 : s = (⟨[115, 51, 57, 48, 120].toArray⟩ : ByteArray)
  · have e : inB procL s = true := by rw [c12]; decide +kernel
    rw [e]
    exact proc_yes12 s w (lit_neQ c0) (lit_neQ c1) (lit_neQ c2) (lit_neQ c3) (lit_neQ c4) (lit_neQ c5) (lit_neQ c6) (lit_neQ c7) (lit_neQ c8) (lit_neQ c9) (lit_neQ c10) (lit_neQ c11) (lit_eqQ c12)
  by_cases c13 : s = (⟨[119, 97, 115, 109].toArray⟩ : ByteArray)
  · have e : inB procL s = true := by rw [c13]; decide +kernel
    rw [e]
    exact proc_yes13 s w (lit_neQ c0) (lit_neQ c1) (lit_neQ c2) (lit_neQ c3) (lit_neQ c4) (lit_neQ c5) (lit_neQ c6) (lit_neQ c7) (lit_neQ c8) (lit_neQ c9) (lit_neQ c10) (lit_neQ c11) (lit_neQ c12) (lit_eqQ c13)
  have e : inB procL s = false := by
    rw [inB_not]
    intro h
    simp only [procL, List.mem_cons, List.not_mem_nil, or_false] at h
    rcases h with h | h | h | h | h | h | h | h | h | h | h | h | h | h
    · exact c0 (h.trans (by decide +kernel))
    · exact c1 (h.trans (by decide +kernel))
    · exact c2 (h.trans (by decide +kernel))
    · exact c3 (h.trans (by decide +kernel))
    · exact c4 (h.trans (by decide +kernel))
    · exact c5 (h.trans (by decide +kernel))
    · exact c6 (h.trans (by decide +kernel))
    · exact c7 (h.trans (by decide +kernel))
    · exact c8 (h.trans (by decide +kernel))
    · exact c9 (h.trans (by decide +kernel))
    · exact c10 (h.trans (by decide +kernel))
    · exact c11 (h.trans (by decide +kernel))
    · exact c12 (h.trans (by decide +kernel))
    · exact c13 (h.trans (by decide +kernel))
  rw [e]
  exact proc_no s w (lit_neQ c0) (lit_neQ c1) (lit_neQ c2) (lit_neQ c3) (lit_neQ c4) (lit_neQ c5) (lit_neQ c6) (lit_neQ c7) (lit_neQ c8) (lit_neQ c9) (lit_neQ c10) (lit_neQ c11) (lit_neQ c12) (lit_neQ c13)
set_option maxHeartbeats 800000 in
theorem sys_no (s : ByteArray) (w : World) (h0 : (s.toList == ([106, 115] : List UInt8)) = false) (h1 : (s.toList == ([112, 108, 97, 110, 57] : List UInt8)) = false) (h2 : (s.toList == ([119, 97, 115, 105, 112, 49] : List UInt8)) = false) (h3 : (s.toList == ([119, 105, 110, 100, 111, 119, 115] : List UInt8)) = false) :
    Calls Tryz.prog 31 #[.string s] w fun e w' => e = .returned (.bool (inB unixL s)) ∧ w = w' := by
  have hu := fun w1 => unix_any s w1
  generalize inB unixL s = r at *
  have Hu := Lib.hid hu
  clear hu
  go_enter Tryz.func31, Tryz.ntmps31
  go_wp2_with fail
  refine (Hu.out _).mono ?_
  rintro e w1 ⟨rfl, rfl⟩
  go_wp2_with fail
  go_ret
  exact ⟨rfl, rfl⟩
set_option maxHeartbeats 800000 in
theorem sys_yes0 (s : ByteArray) (w : World)  (h0 : (s.toList == ([106, 115] : List UInt8)) = true) :
    Calls Tryz.prog 31 #[.string s] w fun e w' => e = .returned (.bool true) ∧ w = w' := by
  go_enter Tryz.func31, Tryz.ntmps31
  go_wp2_with fail
  go_ret
  exact ⟨rfl, rfl⟩
set_option maxHeartbeats 800000 in
theorem sys_yes1 (s : ByteArray) (w : World) (h0 : (s.toList == ([106, 115] : List UInt8)) = false) (h1 : (s.toList == ([112, 108, 97, 110, 57] : List UInt8)) = true) :
    Calls Tryz.prog 31 #[.string s] w fun e w' => e = .returned (.bool true) ∧ w = w' := by
  go_enter Tryz.func31, Tryz.ntmps31
  go_wp2_with fail
  go_ret
  exact ⟨rfl, rfl⟩
set_option maxHeartbeats 800000 in
theorem sys_yes2 (s : ByteArray) (w : World) (h0 : (s.toList == ([106, 115] : List UInt8)) = false) (h1 : (s.toList == ([112, 108, 97, 110, 57] : List UInt8)) = false) (h2 : (s.toList == ([119, 97, 115, 105, 112, 49] : List UInt8)) = true) :
    Calls Tryz.prog 31 #[.string s] w fun e w' => e = .returned (.bool true) ∧ w = w' := by
  go_enter Tryz.func31, Tryz.ntmps31
  go_wp2_with fail
  go_ret
  exact ⟨rfl, rfl⟩
set_option maxHeartbeats 800000 in
theorem sys_yes3 (s : ByteArray) (w : World) (h0 : (s.toList == ([106, 115] : List UInt8)) = false) (h1 : (s.toList == ([112, 108, 97, 110, 57] : List UInt8)) = false) (h2 : (s.toList == ([119, 97, 115, 105, 112, 49] : List UInt8)) = false) (h3 : (s.toList == ([119, 105, 110, 100, 111, 119, 115] : List UInt8)) = true) :
    Calls Tryz.prog 31 #[.string s] w fun e w' => e = .returned (.bool true) ∧ w = w' := by
  go_enter Tryz.func31, Tryz.ntmps31
  go_wp2_with fail
  go_ret
  exact ⟨rfl, rfl⟩
theorem sys_any (s : ByteArray) (w : World) : Calls Tryz.prog 31 #[.string s] w fun e w' => e = .returned (.bool (inB sysL s)) ∧ w = w' := by
  by_cases c0 : s = (⟨[106, 115].toArray⟩ : ByteArray)
  · have e : inB sysL s = true := by rw [c0]; decide +kernel
    rw [e]
    exact sys_yes0 s w  (lit_eqQ c0)
  by_cases c1 : s = (⟨[112, 108, 97, 110, 57].toArray⟩ : ByteArray)
  · have e : inB sysL s = true := by rw [c1]; decide +kernel
    rw [e]
    exact sys_yes1 s w (lit_neQ c0) (lit_eqQ c1)
  by_cases c2 : s = (⟨[119, 97, 115, 105, 112, 49].toArray⟩ : ByteArray)
  · have e : inB sysL s = true := by rw [c2]; decide +kernel
    rw [e]
    exact sys_yes2 s w (lit_neQ c0) (lit_neQ c1) (lit_eqQ c2)
  by_cases c3 : s = (⟨[119, 105, 110, 100, 111, 119, 115].toArray⟩ : ByteArray)
  · have e : inB sysL s = true := by rw [c3]; decide +kernel
    rw [e]
    exact sys_yes3 s w (lit_neQ c0) (lit_neQ c1) (lit_neQ c2) (lit_eqQ c3)
  have e : inB sysL s = inB unixL s := by
    rw [Bool.eq_iff_iff, inB_iff, inB_iff]
    constructor
    · intro h
      simp only [sysL, List.mem_cons, List.not_mem_nil, or_false] at h
      rcases h with h | h | h | h | h | h | h | h | h | h | h | h | h | h | h
      · rw [h, ← inB_iff]; decide +kernel
      · rw [h, ← inB_iff]; decide +kernel
      · rw [h, ← inB_iff]; decide +kernel
      · rw [h, ← inB_iff]; decide +kernel
      · rw [h, ← inB_iff]; decide +kernel
      · rw [h, ← inB_iff]; decide +kernel
      · rw [h, ← inB_iff]; decide +kernel
      · exact absurd (h.trans (by decide +kernel)) c0
      · rw [h, ← inB_iff]; decide +kernel
      · rw [h, ← inB_iff]; decide +kernel
      · rw [h, ← inB_iff]; decide +kernel
      · exact absurd (h.trans (by decide +kernel)) c1
      · rw [h, ← inB_iff]; decide +kernel
      · exact absurd (h.trans (by decide +kernel)) c2
      · exact absurd (h.trans (by decide +kernel)) c3
    · intro h
      simp only [unixL, List.mem_cons, List.not_mem_nil, or_false] at h
      rcases h with h | h | h | h | h | h | h | h | h | h | h
      · rw [h, ← inB_iff]; decide +kernel
      · rw [h, ← inB_iff]; decide +kernel
      · rw [h, ← inB_iff]; decide +kernel
      · rw [h, ← inB_iff]; decide +kernel
      · rw [h, ← inB_iff]; decide +kernel
      · rw [h, ← inB_iff]; decide +kernel
      · rw [h, ← inB_iff]; decide +kernel
      · rw [h, ← inB_iff]; decide +kernel
      · rw [h, ← inB_iff]; decide +kernel
      · rw [h, ← inB_iff]; decide +kernel
      · rw [h, ← inB_iff]; decide +kernel
  rw [e]
  exact sys_no s w (lit_neQ c0) (lit_neQ c1) (lit_neQ c2) (lit_neQ c3)
end Go.Proofs.YtpibehfmbmincaaGreatDoor
