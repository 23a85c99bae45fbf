/- Walks: known words. -/
import Derived.Test.YtpibehfmbmincaaGreatDoorRb
namespace Go.Proofs.YtpibehfmbmincaaGreatDoor
set_option linter.unusedVariables false
open Go.ChangeShapes Go.WideShapes Go.ChangeAt Go.RowKit
def unixL : List ByteArray := ["aix".toUTF8, "android".toUTF8, "darwin".toUTF8, "dragonfly".toUTF8, "freebsd".toUTF8, "illumos".toUTF8, "ios".toUTF8, "linux".toUTF8, "netbsd".toUTF8, "openbsd".toUTF8, "solaris".toUTF8]
def restL : List ByteArray := ["js".toUTF8, "plan9".toUTF8, "wasip1".toUTF8, "windows".toUTF8]
def sysL : List ByteArray := ["aix".toUTF8, "android".toUTF8, "darwin".toUTF8, "dragonfly".toUTF8, "freebsd".toUTF8, "illumos".toUTF8, "ios".toUTF8, "js".toUTF8, "linux".toUTF8, "netbsd".toUTF8, "openbsd".toUTF8, "plan9".toUTF8, "solaris".toUTF8, "wasip1".toUTF8, "windows".toUTF8]
def procL : List ByteArray := ["386".toUTF8, "amd64".toUTF8, "arm".toUTF8, "arm64".toUTF8, "loong64".toUTF8, "mips".toUTF8, "mips64".toUTF8, "mips64le".toUTF8, "mipsle".toUTF8, "ppc64".toUTF8, "ppc64le".toUTF8, "riscv64".toUTF8, "s390x".toUTF8, "wasm".toUTF8]

theorem sys_words : wordsB "aix android darwin dragonfly freebsd illumos ios js linux netbsd openbsd plan9 solaris wasip1 windows".toUTF8 = sysL := by decide +kernel
theorem proc_words : wordsB "386 amd64 arm arm64 loong64 mips mips64 mips64le mipsle ppc64 ppc64le riscv64 s390x wasm".toUTF8 = procL := by decide +kernel

theorem systems_any (w : World) : Calls Tryz.prog 11 #[] w fun e w' => ∃ v, e = .returned v ∧ Strs w' v sysL ∧ Below w.heap.size w w' := by
  have h := fun w1 => rwords_any "aix android darwin dragonfly freebsd illumos ios js linux netbsd openbsd plan9 solaris wasip1 windows".toUTF8 w1 (by decide +kernel)
  rw [sys_words] at h
  have H := Lib.hid h
  clear h
  go_enter Tryz.func11, Tryz.ntmps11
  go_wp2_with fail
  refine (H.out _).mono ?_
  rintro e w' ⟨v, rfl, hown, hB⟩
  have hv := Strs.ofRow hown
  clear hown
  go_wp2_with fail
  go_ret
  exact ⟨v, rfl, hv, hB⟩
theorem processors_any (w : World) : Calls Tryz.prog 12 #[] w fun e w' => ∃ v, e = .returned v ∧ Strs w' v procL ∧ Below w.heap.size w w' := by
  have h := fun w1 => rwords_any "386 amd64 arm arm64 loong64 mips mips64 mips64le mipsle ppc64 ppc64le riscv64 s390x wasm".toUTF8 w1 (by decide +kernel)
  rw [proc_words] at h
  have H := Lib.hid h
  clear h
  go_enter Tryz.func12, Tryz.ntmps12
  go_wp2_with fail
  refine (H.out _).mono ?_
  rintro e w' ⟨v, rfl, hown, hB⟩
  have hv := Strs.ofRow hown
  clear hown
  go_wp2_with fail
  go_ret
  exact ⟨v, rfl, hv, hB⟩
end Go.Proofs.YtpibehfmbmincaaGreatDoor
