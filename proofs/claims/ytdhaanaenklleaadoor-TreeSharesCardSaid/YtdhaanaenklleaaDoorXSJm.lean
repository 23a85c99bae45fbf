/- Plain: a text is split. -/
import Derived.Test.YtdhaanaenklleaaDoorQ4
namespace Go.Proofs.YtdhaanaenklleaaDoor.S

/-- How many bytes a part's number says. -/
def len8 (s : ByteArray) : Nat := be (s.data.toList.take 8)
/-- One part off a text's beginning, and what stands behind it. -/
def cutB (s : ByteArray) : Option (ByteArray × ByteArray) := if s.size < 8 then none else if s.size < len8 s + 8 then none else some (s.extract 8 (8 + len8 s), s.extract (8 + len8 s) s.size)
def cutsB : Nat → ByteArray → Option (List ByteArray × ByteArray)
  | 0, s => some ([], s)
  | n + 1, s => match cutB s with
    | none => none
    | some (p, r) => match cutsB n r with
      | none => none
      | some (ps, t) => some (p :: ps, t)
/-- Nothing may be left. -/
def ended : Option (List ByteArray × ByteArray) → Option (List ByteArray)
  | none => none
  | some (ps, t) => if t.size = 0 then some ps else none
def splitB (s : ByteArray) : Option (List ByteArray) := if s.size < 8 then none else ended (cutsB (len8 s) (s.extract 8 s.size))

theorem cutB_size {s p r : ByteArray} (h : cutB s = some (p, r)) : r.size + p.size + 8 = s.size := by
  unfold cutB at h
  split at h
  · cases h
  · split at h
    · cases h
    · cases h
      simp [ByteArray.size_extract]
      omega

theorem cutsB_size : ∀ (n : Nat) (s : ByteArray) (ps : List ByteArray) (t : ByteArray), cutsB n s = some (ps, t) → 8 * n + t.size ≤ s.size := by
  intro n
  induction n with
  | zero => intro s ps t h; simp [cutsB] at h; rw [h.2]; omega
  | succ n ih =>
    intro s ps t h
    unfold cutsB at h
    cases hc : cutB s with
    | none => simp [hc] at h
    | some pr =>
      obtain ⟨p, r⟩ := pr
      cases hk : cutsB n r with
      | none => simp [hc, hk] at h
      | some x =>
        obtain ⟨qs, u⟩ := x
        simp [hc, hk] at h
        have := ih r qs u hk
        have := cutB_size hc
        rw [← h.2]
        omega

/-- Behind j parts 'acc' stands 'rest', of which so many are wanted still. -/
def Mid (n : Nat) (s0 : ByteArray) (m : Nat) (acc : List ByteArray) (rest : ByteArray) : Prop :=
  cutsB n s0 = (cutsB m rest).map fun x => (acc ++ x.1, x.2)

theorem Mid.start (n : Nat) (s : ByteArray) : Mid n s n [] s := by
  unfold Mid
  cases cutsB n s <;> simp

theorem Mid.step {n m : Nat} {s0 rest p r : ByteArray} {acc : List ByteArray} (h : Mid n s0 (m + 1) acc rest) (hc : cutB rest = some (p, r)) : Mid n s0 m (acc ++ [p]) r := by
  unfold Mid at h ⊢
  rw [h]
  conv => lhs; rw [cutsB]
  rw [hc]
  cases hm : cutsB m r with
  | none => simp [hm]
  | some x => obtain ⟨ps, t⟩ := x; simp [hm]

theorem Mid.stop {n m : Nat} {s0 rest : ByteArray} {acc : List ByteArray} (h : Mid n s0 (m + 1) acc rest) (hc : cutB rest = none) : cutsB n s0 = none := by
  unfold Mid at h
  rw [h]
  conv => lhs; rw [cutsB]
  rw [hc]
  rfl

theorem Mid.done {n : Nat} {s0 rest : ByteArray} {acc : List ByteArray} (h : Mid n s0 0 acc rest) : cutsB n s0 = some (acc, rest) := by
  unfold Mid at h
  rw [h]
  simp [cutsB]

theorem splitB_many {s : ByteArray} (h : s.size / 8 < len8 s) : splitB s = none := by
  unfold splitB
  split
  · rfl
  · cases hc : cutsB (len8 s) (s.extract 8 s.size) with
    | none => rfl
    | some x =>
      obtain ⟨ps, t⟩ := x
      have := cutsB_size _ _ _ _ hc
      simp [ByteArray.size_extract] at this
      omega
end Go.Proofs.YtdhaanaenklleaaDoor.S
