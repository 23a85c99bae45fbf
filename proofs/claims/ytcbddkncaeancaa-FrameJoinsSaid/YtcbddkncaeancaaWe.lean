/- Walks: the document's Split. -/
import Derived.Test.YtcbddkncaeancaaWd
import Derived.Laws.MakeOwn
import Derived.Laws.AppendOwn
import Derived.Deep.DeepMust
namespace Go.Proofs.Ytcbddkncaeancaa
set_option linter.unusedVariables false
open Go.ChangeShapes Go.WideShapes Go.ChangeAt Go.RowKit

theorem ownsRow_below {w w' : World} {base : Nat} {e : TypeId} {size : Nat} {v : Value} {n : Nat} {xs : List Value} (h : w.ownsRow base e size v n xs) (hB : Below w.heap.size w w') : w'.ownsRow base e size v n xs :=
  h.kept (row := none) ⟨hB.os, hB.tape, hB.output, hB.size, fun k hk _ => hB.block k hk⟩ (by cases v.ownBlock <;> simp)

theorem Try.info9 : (Try.prog.info? 9).map (fun i => (i.zero, i.size, i.bytes)) = some (some (.string ⟨#[]⟩), 1, 16) := by kernel_rfl
theorem Try.info5 : (Try.prog.info? 5).map (fun i => (i.zero, i.size, i.bytes)) = some (some (.int .u8 0), 1, 1) := by kernel_rfl

/-- Split's answer: the records, in memory, and how many bytes they are. -/
def SplitEnd (w : World) (r : List ByteArray × Nat) (e : Ending) (w' : World) : Prop :=
  Below w.heap.size w w' ∧ ∃ v, e = .returned (.tuple #[v, .int .i64 (r.2 : Nat)]) ∧ Strs w' v r.1

theorem refWhole_any (s : ByteArray) (w : World) (hs : s.size ≤ 9223372036854775807) :
    Calls Try.prog 19 #[.string s] w (WholeEnd w (wholeL s.data.toList)) := by
  by_cases h : s.size < 8
  · exact refWhole_short s w h
  · exact refWhole_long s w (by omega) hs

theorem refWhole_none (s : ByteArray) (w : World) (hs : s.size ≤ 9223372036854775807) (h : wholeL s.data.toList = none) :
    Calls Try.prog 19 #[.string s] w fun e w' => Below w.heap.size w w' ∧ ∃ t : ByteArray, e = .returned (.tuple #[.string t, .bool false]) := by
  have := refWhole_any s w hs
  rw [h] at this; exact this
theorem refWhole_some (s : ByteArray) (p : ByteArray) (w : World) (hs : s.size ≤ 9223372036854775807) (h : wholeL s.data.toList = some p) :
    Calls Try.prog 19 #[.string s] w fun e w' => Below w.heap.size w w' ∧ e = .returned (.tuple #[.string p, .bool true]) := by
  have := refWhole_any s w hs
  rw [h] at this; exact this

theorem drop_data (s : ByteArray) (n : Nat) : (s.extract n s.size).data.toList = s.data.toList.drop n := by
  rw [Lib.extract_data, List.take_of_length_le (by rw [List.length_drop, ba_len]; omega)]

set_option maxHeartbeats 400000 in
theorem refSplit_any (s : ByteArray) (w : World) (hs : s.size ≤ 1048576) :
    Calls Try.prog 17 #[.string s] w (SplitEnd w (splitL s.data.toList)) := by
  obtain ⟨i0, hi, hz0, hz1, hz2⟩ := info_parts Try.info9
  go_enter Try.func17, Try.ntmps17
  go_wp2_with fail
  go_loopg [4, 5] (s.size + 1) (fun g v nv wr => ∃ (n : Nat) (acc : List ByteArray), n + g = s.size + 1 ∧ nv = .int .i64 n ∧ 8 * acc.length ≤ n ∧ Mid s.data.toList acc n ∧ wr.ownsRow w.heap.size 9 1 v acc.length (acc.map Value.string) ∧ Below w.heap.size w wr)
  case atStart => exact ⟨0, [], by omega, rfl, by simp, Mid.start _, World.ownsRow_nil _ _ _ _, Below.refl _ _⟩
  case round =>
    obtain ⟨n, acc, hng, rfl, hal, hmid, hown, hB⟩ := hrel
    have hns : n ≤ s.size := by have := hmid.1; rwa [ba_len] at this
    have HM := Lib.hid hmid
    have hBs := hB.size
    clear hmid
    have hdd := drop_data s n
    cases hwh : wholeL (s.data.toList.drop n) with
    | none =>
      have hc := refWhole_none (s.extract n s.size) wr (by rw [ByteArray.size_extract]; omega) (by rw [hdd]; exact hwh)
      have hd := HM.out.done hwh
      have Hd := Lib.hid hd
      have Hc := Lib.hid hc
      clear hd hc hwh hdd
      go_wp2_with fail
      refine Hc.out.mono ?_
      rintro e w1 ⟨hB1, t, rfl⟩
      have hown1 := ownsRow_below hown hB1
      have hB01 := hB.trans (hB1.mono hBs)
      clear hown hB hB1
      go_wp2_with fail
      go_ret2
      refine ⟨hB01, _, ?_, Strs.ofRow (by rw [Hd.out]; exact hown1)⟩
      rw [Hd.out]
      rfl
    | some p =>
      have hc := refWhole_some (s.extract n s.size) p wr (by rw [ByteArray.size_extract]; omega) (by rw [hdd]; exact hwh)
      have hst := HM.out.step hwh
      have hle := wholeL_le hwh
      rw [List.length_drop, ba_len] at hle
      have Hst := Lib.hid hst
      have Hc := Lib.hid hc
      clear hst hc hwh hdd HM
      go_wp2_with fail
      refine Hc.out.mono ?_
      rintro e w1 ⟨hB1, rfl⟩
      have hown1 := ownsRow_below hown hB1
      have hB01 := hB.trans (hB1.mono hBs)
      have hBs1 := hB01.size
      clear hown hB hB1 Hc
      go_wp2_with (at_builtin; go_must (refine wpList_append_own _ rfl (.tmp 19) (.tmp 21) 23 rfl w.heap.size 9 i0 (.string ⟨#[]⟩) 1 16 Try.underlying23 hi hz0 hz1 hz2 rfl (by decide) _ _ _ rfl (hown1.alloc _) ⟨w1.heap.size, 0, none⟩ 1 1 [.string p] rfl rfl (cell_one_new _ _ _) (by intro u hu; simp at hu; subst hu; rfl) (by unfold maxLen; omega) (by omega) (by simp; omega) ?_); intro v1 w2 hown2 hgrow2 _)
      rw [show acc.map Value.string ++ [Value.string p] = (acc ++ [p]).map Value.string by simp] at hown2
      go_roundg (gk - 8 - p.size)
      case measure => omega
      case rel => exact ⟨n + 8 + p.size, acc ++ [p], by omega, by go_num, by simp; omega, Hst.out, by simpa using hown2, (hB01.alloc hBs1 _).grown hgrow2 (by simp; omega) (fun k hk => (hown1.lt k hk).1)⟩
end Go.Proofs.Ytcbddkncaeancaa
