/- Plain: brackets and blanks around a constraint; two joined. -/
import Derived.Test.YtpibehfmbmincaaGreatDoorPc
import Derived.Test.YtpibehfmbmincaaGreatDoorWh
namespace Go.Proofs.YtpibehfmbmincaaGreatDoor
set_option linter.unusedVariables false
theorem parse_len {s : ByteArray} (hs : s.size ≤ 1024) : (parseR s).1.length ≤ 4096 := by
  unfold parseR
  rw [if_neg (by omega)]
  cases ho : ors0 s with
  | err c => simp
  | ok t =>
    simp only
    split
    · have := lvl_room _ _ _ _ ho
      simp only [List.length_nil, ba_len] at this
      simp only; omega
    · simp
end Go.Proofs.YtpibehfmbmincaaGreatDoor
