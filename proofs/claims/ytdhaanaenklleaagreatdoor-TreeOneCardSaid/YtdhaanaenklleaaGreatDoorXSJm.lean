/- Plain: a text is split. -/
import Derived.Test.YtdhaanaenklleaaGreatDoorQ4
namespace Go.Proofs.YtdhaanaenklleaaGreatDoor.S

/-- How many bytes a part's number says. -/
def len8 (s : ByteArray) : Nat := be (s.data.toList.take 8)
/-- One part off a text's beginning, and what stands behind it. -/
def cutB (s : ByteArray) : Option (ByteArray × ByteArray) := if s.size < 8 then none else if s.size < len8 s + 8 then none else some (s.extract 8 (8 + len8 s), s.extract (8 + len8 s) s.size)
def cutsB : Nat → ByteArray → Option (List ByteArray × ByteArray)
  | 0, s => some ([], s)
  | n + 1, s => match cutB s with
    | none => none
    | some (p, r) => match cutsB n r with
      | none => none
      | some (ps, t) => some (p :: ps, t)
/-- Nothing may be left. -/
def ended : Option (List ByteArray × ByteArray) → Option (List ByteArray)
  | none => none
  | some (ps, t) => if t.size = 0 then some ps else none
def splitB (s : ByteArray) : Option (List ByteArray) := if s.size < 8 then none else ended (cutsB (len8 s) (s.extract 8 s.size))

/-- Behind j parts 'acc' stands 'rest', of which so many are wanted still. -/
def Mid (n : Nat) (s0 : ByteArray) (m : Nat) (acc : List ByteArray) (rest : ByteArray) : Prop :=
  cutsB n s0 = (cutsB m rest).map fun x => (acc ++ x.1, x.2)

theorem Mid.start (n : Nat) (s : ByteArray) : Mid n s n [] s := by
  unfold Mid
  cases cutsB n s <;> simp

theorem Mid.step {n m : Nat} {s0 rest p r : ByteArray} {acc : List ByteArray} (h : Mid n s0 (m + 1) acc rest) (hc : cutB rest = some (p, r)) : Mid n s0 m (acc ++ [p]) r := by
  unfold Mid at h ⊢
  rw [h]
  conv => lhs; rw [cutsB]
  rw [hc]
  cases hm : cutsB m r with
  | none => simp [hm]
  | some x => obtain ⟨ps, t⟩ := x; simp [hm]

theorem Mid.done {n : Nat} {s0 rest : ByteArray} {acc : List ByteArray} (h : Mid n s0 0 acc rest) : cutsB n s0 = some (acc, rest) := by
  unfold Mid at h
  rw [h]
  simp [cutsB]

end Go.Proofs.YtdhaanaenklleaaGreatDoor.S
