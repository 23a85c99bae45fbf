/- Walks: known words. -/
import Derived.Test.YtlgmnhjdnmjpgaaDoorWb
namespace Go.Proofs.YtlgmnhjdnmjpgaaDoor
set_option linter.unusedVariables false
open Go.ChangeShapes Go.WideShapes Go.ChangeAt Go.RowKit

theorem below_drewN {B : Nat} {a w : World} (h : Below B a w) (n : Nat) : Below B a (w.drewN n) := h.trans ⟨rfl, rfl, rfl, Nat.le_refl _, fun _ _ => rfl⟩
theorem beq_of {x y : ByteArray} (h : x = y) : (x.toList == y.toList) = true := by rw [h]; simp
theorem beq_of_ne {x y : ByteArray} (h : x ≠ y) : (x.toList == y.toList) = false := by
  rw [beq_eq_false_iff_ne]
  intro e
  apply h
  rw [Lib.toList_data, Lib.toList_data] at e
  exact ba_ext e

/-- Whether a list has a text. -/
def inB (ss : List ByteArray) (x : ByteArray) : Bool := ss.any fun y => decide (y = x)
theorem inB_iff (ss : List ByteArray) (x : ByteArray) : inB ss x = true ↔ x ∈ ss := by
  simp [inB]
theorem inB_not (ss : List ByteArray) (x : ByteArray) : inB ss x = false ↔ x ∉ ss := by
  rw [← inB_iff]; simp

set_option maxHeartbeats 400000 in
theorem in_any (v : Value) (ss : List ByteArray) (x : ByteArray) (w : World) (hv : Strs w v ss) :
    Calls Tryd.prog 22 #[v, .string x] w fun e w' => e = .returned (.bool (inB ss x)) ∧ w = w' := by
  obtain ⟨p, cap, rfl, hp⟩ := strs_shape hv
  have Hp := Lib.hid hp
  obtain ⟨len, hlen⟩ : ∃ len, len = ss.length := ⟨_, rfl⟩
  rw [← hlen] at Hp ⊢
  have Hlen := Lib.hid hlen
  clear hv hp hlen
  go_enter Tryd.func22, Tryd.ntmps22
  go_wp2
  go_loop [6, 9] (fun _ i => ∃ k : Nat, k ≤ len ∧ i = .int .i64 k ∧ x ∉ ss.take k) (fun _ i => len - (intOf i).toNat)
  case atStart => exact ⟨0, by omega, rfl, by simp⟩
  case round =>
    obtain ⟨k, hk, rfl, hno⟩ := hrel
    have Hno := Lib.hid hno
    clear hno
    by_cases hlt : k < len
    · obtain ⟨b, off, rfl, hb, hcap, hmax, hcell⟩ := Hp.out (by omega)
      have hc := hcell k hlt
      have hkl : k < ss.length := by have := Hlen.out; omega
      have hge : ss.getD k ByteArray.empty = ss[k] := by simp [List.getD, hkl]
      have hts := List.take_succ_eq_append_getElem hkl
      rw [← hge] at hts
      have hmem : ss.getD k ByteArray.empty ∈ ss := by rw [hge]; exact List.getElem_mem hkl
      unfold maxLen at hmax
      obtain ⟨y, hy⟩ : ∃ y, y = ss.getD k ByteArray.empty := ⟨_, rfl⟩
      rw [← hy] at hc hts hmem
      have Hts := Lib.hid hts
      have Hmem := Lib.hid hmem
      clear hy hts hge hcell hmem
      by_cases hxy : y = x
      · have h1 := beq_of hxy
        have hin : inB ss x = true := by rw [inB_iff, ← hxy]; exact Hmem.out
        have Hin := Lib.hid hin
        clear hin hxy
        go_wp2
        go_ret
        exact ⟨by rw [Hin.out]; rfl, rfl⟩
      · have h1 := beq_of_ne hxy
        have hnx : x ∉ ss.take (k + 1) := by
          rw [Hts.out, List.mem_append, List.mem_singleton, not_or]
          exact ⟨Hno.out, fun e => hxy e.symm⟩
        have Hnx := Lib.hid hnx
        clear hnx hxy
        go_wp2
        exact ⟨⟨k + 1, by omega, by go_num, Hnx.out⟩, by simp [intOf]; omega⟩
    · have hin : inB ss x = false := by
        have hno := Hno.out
        rw [List.take_of_length_le (by have := Hlen.out; omega)] at hno
        rw [inB_not]; exact hno
      have Hin := Lib.hid hin
      clear hin
      go_wp2
      go_ret
      exact ⟨by rw [Hin.out]; rfl, rfl⟩

def sysT : ByteArray := ⟨"aix android darwin dragonfly freebsd illumos ios js linux netbsd openbsd plan9 solaris wasip1 windows".toUTF8.data⟩
def unixL : List ByteArray := ["aix".toUTF8, "android".toUTF8, "darwin".toUTF8, "dragonfly".toUTF8, "freebsd".toUTF8, "illumos".toUTF8, "ios".toUTF8, "linux".toUTF8, "netbsd".toUTF8, "openbsd".toUTF8, "solaris".toUTF8]
def restL : List ByteArray := ["js".toUTF8, "plan9".toUTF8, "wasip1".toUTF8, "windows".toUTF8]
def sysL : List ByteArray := ["aix".toUTF8, "android".toUTF8, "darwin".toUTF8, "dragonfly".toUTF8, "freebsd".toUTF8, "illumos".toUTF8, "ios".toUTF8, "js".toUTF8, "linux".toUTF8, "netbsd".toUTF8, "openbsd".toUTF8, "plan9".toUTF8, "solaris".toUTF8, "wasip1".toUTF8, "windows".toUTF8]
def procL : List ByteArray := ["386".toUTF8, "amd64".toUTF8, "arm".toUTF8, "arm64".toUTF8, "loong64".toUTF8, "mips".toUTF8, "mips64".toUTF8, "mips64le".toUTF8, "mipsle".toUTF8, "ppc64".toUTF8, "ppc64le".toUTF8, "riscv64".toUTF8, "s390x".toUTF8, "wasm".toUTF8]

theorem sys_words : wordsB "aix android darwin dragonfly freebsd illumos ios js linux netbsd openbsd plan9 solaris wasip1 windows".toUTF8 = sysL := by decide +kernel
theorem proc_words : wordsB "386 amd64 arm arm64 loong64 mips mips64 mips64le mipsle ppc64 ppc64le riscv64 s390x wasm".toUTF8 = procL := by decide +kernel

theorem systems_any (w : World) : Calls Tryd.prog 18 #[] w fun e w' => ∃ v, e = .returned v ∧ Strs w' v sysL ∧ Below w.heap.size w w' := by
  have h := fun w1 => words_any "aix android darwin dragonfly freebsd illumos ios js linux netbsd openbsd plan9 solaris wasip1 windows".toUTF8 w1 (by decide +kernel)
  rw [sys_words] at h
  go_enter Tryd.func18, Tryd.ntmps18
  go_wp2_with fail
  refine (h _).mono ?_
  rintro e w1 ⟨v, rfl, hv, hB⟩
  go_wp2_with fail
  go_ret
  exact ⟨_, rfl, hv, hB⟩
theorem processors_any (w : World) : Calls Tryd.prog 19 #[] w fun e w' => ∃ v, e = .returned v ∧ Strs w' v procL ∧ Below w.heap.size w w' := by
  have h := fun w1 => words_any "386 amd64 arm arm64 loong64 mips mips64 mips64le mipsle ppc64 ppc64le riscv64 s390x wasm".toUTF8 w1 (by decide +kernel)
  rw [proc_words] at h
  go_enter Tryd.func19, Tryd.ntmps19
  go_wp2_with fail
  refine (h _).mono ?_
  rintro e w1 ⟨v, rfl, hv, hB⟩
  go_wp2_with fail
  go_ret
  exact ⟨_, rfl, hv, hB⟩
end Go.Proofs.YtlgmnhjdnmjpgaaDoor
