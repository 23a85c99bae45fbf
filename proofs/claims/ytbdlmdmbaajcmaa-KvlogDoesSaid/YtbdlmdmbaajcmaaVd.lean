/- Nil stores; opening with wrong arguments; a file that is not there; what is left. -/
import Derived.Test.YtbdlmdmbaajcmaaZy
namespace Go.Proofs.Ytbdlmdmbaajcmaa
set_option linter.unusedVariables false
set_option linter.unusedSimpArgs false
open Go.ChangeShapes Go.WideShapes Go.ChangeAt Go.RowKit

set_option maxRecDepth 100000 in
theorem get_nil (k : ByteArray) (w : World) : Calls Try.prog 17 #[.pointer none, .string k] w fun e w' => e = .returned (.tuple #[.string ⟨#[]⟩, .bool false]) ∧ Below w.heap.size w w' := by
  have HB := Lib.hid (Below.refl w.heap.size w)
  go_enter Try.func17, Try.ntmps17
  go_wp2_with fail
  go_ret2
  exact ⟨rfl, HB.out⟩
set_option maxRecDepth 100000 in
theorem put_nil (k v : ByteArray) (w : World) : Calls Try.prog 18 #[.pointer none, .string k, .string v] w fun e w' => e = .returned (.int .i64 2) ∧ Below w.heap.size w w' := by
  have HB := Lib.hid (Below.refl w.heap.size w)
  go_enter Try.func18, Try.ntmps18
  go_wp2_with fail
  go_ret
  exact ⟨rfl, HB.out⟩
set_option maxRecDepth 100000 in
theorem evict_nil (n : Int) (w : World) : Calls Try.prog 19 #[.pointer none, .int .i64 n] w fun e w' => e = .returned (.int .i64 2) ∧ Below w.heap.size w w' := by
  have HB := Lib.hid (Below.refl w.heap.size w)
  go_enter Try.func19, Try.ntmps19
  go_wp2_with fail
  go_ret
  exact ⟨rfl, HB.out⟩
set_option maxRecDepth 100000 in
theorem sync_nil (w : World) : Calls Try.prog 20 #[.pointer none] w fun e w' => e = .returned (.int .i64 2) ∧ Below w.heap.size w w' := by
  have HB := Lib.hid (Below.refl w.heap.size w)
  go_enter Try.func20, Try.ntmps20
  go_wp2_with fail
  go_ret
  exact ⟨rfl, HB.out⟩
set_option maxRecDepth 100000 in
theorem compact_nil (w : World) : Calls Try.prog 21 #[.pointer none] w fun e w' => e = .returned (.int .i64 2) ∧ Below w.heap.size w w' := by
  have HB := Lib.hid (Below.refl w.heap.size w)
  go_enter Try.func21, Try.ntmps21
  go_wp2_with fail
  go_ret
  exact ⟨rfl, HB.out⟩
set_option maxRecDepth 100000 in
theorem keys_nil (w : World) : Calls Try.prog 22 #[.pointer none] w fun e w' => e = .returned (.slice none 0 0) ∧ Below w.heap.size w w' := by
  have HB := Lib.hid (Below.refl w.heap.size w)
  go_enter Try.func22, Try.ntmps22
  go_wp2_with fail
  go_ret
  exact ⟨rfl, HB.out⟩
set_option maxRecDepth 100000 in
theorem open_nil (nm : ByteArray) (m : Int) (w : World) : Calls Try.prog 12 #[.pointer none, .string nm, .int .i64 m] w fun e w' => e = .returned (.tuple #[.pointer none, .int .i64 2]) ∧ Below w.heap.size w w' := by
  have HB := Lib.hid (Below.refl w.heap.size w)
  go_enter Try.func12, Try.ntmps12
  go_wp2_with fail
  go_ret2
  exact ⟨rfl, HB.out⟩
set_option maxRecDepth 100000 in
/-- A name that is too long, or none; or a wrong number. -/
theorem open_arg (d : Nat) (nm : ByteArray) (m : Int) (w : World) (hs : nm.size ≤ 1073741824) (h : nm = ⟨#[]⟩ ∨ 28 < nm.size ∨ m < 1 ∨ 4096 < m) : Calls Try.prog 12 #[.pointer (some ⟨d, 0, none⟩), .string nm, .int .i64 m] w fun e w' => e = .returned (.tuple #[.pointer none, .int .i64 1]) ∧ Below w.heap.size w w' := by
  have HB := Lib.hid (Below.refl w.heap.size w)
  have k0 := str_lit nm #[]
  by_cases h0 : nm = ⟨#[]⟩
  · rw [decide_eq_true h0] at k0
    clear h h0
    go_enter Try.func12, Try.ntmps12
    go_wp2_with fail
    go_ret2
    exact ⟨rfl, HB.out⟩
  rw [decide_eq_false h0] at k0
  by_cases h1 : 28 < nm.size
  · have hI : (32 : Int) < (nm.size : Int) + 4 := by omega
    clear h h0
    go_enter Try.func12, Try.ntmps12
    go_wp2_with fail
    go_ret2
    exact ⟨rfl, HB.out⟩
  have hI : ¬ (32 : Int) < (nm.size : Int) + 4 := by omega
  by_cases h2 : m < 1
  · clear h h0
    go_enter Try.func12, Try.ntmps12
    go_wp2_with fail
    go_ret2
    exact ⟨rfl, HB.out⟩
  have h3 : 4096 < m := by
    rcases h with h | h | h | h
    · exact absurd h h0
    · exact absurd h h1
    · exact absurd h h2
    · exact h
  clear h h0
  go_enter Try.func12, Try.ntmps12
  go_wp2_with fail
  go_ret2
  exact ⟨rfl, HB.out⟩
section
variable {B b d b2 : Nat} {nm : ByteArray} {m m2 z r : Int} {h : Hd} {A : List Ab} {L L2 : List En} {w w' : World} {n zz N : Nat}
theorem read_new (k : Duo B b d nm m h A L w) (so : Sol r n nm h A L zz) (g2 : goodN (nm ++ wNew) = true) :
    Calls Try.prog 15 #[.pointer (some ⟨d, 0, none⟩), .string (nm ++ wNew)] w fun e w' => e = .returned (.tuple #[.slice none 0 0, .int .i64 5]) ∧ Below w.heap.size w w' := by
  obtain ⟨TD, TS, k1, _⟩ := k.s
  have hne := ready_ne nm rfl
  have hf : findA h A (nm ++ wNew) = 5 := by
    rw [find_look so.k g2]
    rcases so.o with ⟨rfl, _, _⟩ | ⟨H, s, rfl, _, _, _⟩
    · rfl
    · simp [lookA, hne]
  refine (cRead k1.dv (by rw [so.o.tot]; have := so.z; have := so.r; omega) (nm ++ wNew)).mono ?_
  rintro e w' ⟨hr, hB⟩
  rcases hr with ⟨_, he⟩ | ⟨he, _⟩
  · rw [hf] at he; exact ⟨he, hB⟩
  · rw [hf] at he; cases he
theorem free_duo (k : Duo B b d nm m h A L w) (so : Sol r n nm h A L zz) (hn : n ≤ 1000) :
    Calls Try.prog 16 #[.pointer (some ⟨d, 0, none⟩)] w fun e w' => e = .returned (.int .i64 (r - (zz : Nat))) ∧ Below w.heap.size w w' := by
  obtain ⟨TD, TS, k1, _⟩ := k.s
  have := cFree k1.dv (so.ok.hd (by omega)) (by rw [so.o.tot]; have := so.z; have := so.r; omega)
  rw [so.o.tot, so.k.room] at this
  exact this
end
theorem kN_draft : kN ++ wNew = ⟨#[107, 46, 110, 101, 119]⟩ := by decide
end Go.Proofs.Ytbdlmdmbaajcmaa
