/- Walks: bytes are split. -/
import Derived.Test.YtcbddkncaeancaaWf
namespace Go.Proofs.Ytcbddkncaeancaa
set_option linter.unusedVariables false
open Go.ChangeShapes Go.WideShapes Go.ChangeAt Go.RowKit

theorem sliced_run (p : Option Addr) (len cap n : Nat) (h : n ≤ len) (w1 : World) : (Instr.slice 22 (.slice p len cap) (some (.int .i64 n)) none none).run Try.prog w1 = .ok (.slice (if cap = n then p else p.map (·.add n)) (len - n) (cap - n)) w1 := by
  have h2 : (n : Int) ≤ len := by omega
  have he : Try.prog.elem 22 = 5 := by kernel_rfl
  have hz : (sizeOf 5).run Try.prog w1 = .ok 1 w1 := by kernel_rfl
  rw [run_slice_l w1 22 _ _ _ (by rw [he]; exact Try.underlying22) .i64 _ (by omega) h2, he, hz]
  simp [Result.andThen, sliced]

theorem add_none (b off i : Nat) : (⟨b, off, none⟩ : Addr).add i = ⟨b, off + i, none⟩ := by unfold Addr.add; split <;> simp_all

theorem byts_from (w : World) (v : Value) (l : List UInt8) (n : Nat) (hv : Byts w v l) (hn : n ≤ l.length) : ∃ v', (∀ w1, (Instr.slice 22 v (some (.int .i64 n)) none none).run Try.prog w1 = .ok v' w1) ∧ Byts w v' (l.drop n) := by
  rcases hv with ⟨⟨pz, cz, rfl⟩, rfl⟩ | ⟨b, off, cap, rfl, hcap, hmax, hb, hcell⟩
  · exact ⟨_, fun w1 => sliced_run _ _ _ _ (by simpa using hn) w1, .inl ⟨⟨_, _, by rw [show 0 - n = 0 by omega]⟩, by simp⟩⟩
  · refine ⟨_, fun w1 => sliced_run _ _ _ _ hn w1, ?_⟩
    by_cases hc : cap = n
    · refine .inl ⟨⟨_, _, by rw [show l.length - n = 0 by omega]⟩, List.drop_eq_nil_of_le (by omega)⟩
    · refine .inr ⟨b, off + n, cap - n, ?_, by rw [List.length_drop]; omega, by omega, hb, fun i hi => ?_⟩
      · rw [if_neg hc, List.length_drop, Option.map_some, add_none]
      · rw [List.length_drop] at hi
        have := hcell (n + i) (by omega)
        rw [← Nat.add_assoc] at this
        simpa [List.getD_eq_getElem?_getD] using this

theorem first_any (v : Value) (l : List UInt8) (w : World) (hv : Byts w v l) : Calls Try.prog 22 #[v] w (FirstEnd w (wholeL l)) := by
  by_cases h : l.length < 8
  · rw [wholeL_short l h]; exact first_short v l w hv h
  · exact first_long v l w hv (by omega)

set_option maxHeartbeats 400000 in
theorem split_any (v : Value) (l : List UInt8) (w : World) (hv : Byts w v l) (hs : l.length ≤ 1048576) :
    Calls Try.prog 16 #[v] w (SplitEnd w (splitL l)) := by
  obtain ⟨i0, hi, hz0, hz1, hz2⟩ := info_parts Try.info9
  go_enter Try.func16, Try.ntmps16
  go_wp2_with fail
  go_loopg [4, 5] (l.length + 1) (fun g ov nv wr => ∃ (n : Nat) (acc : List ByteArray), n + g = l.length + 1 ∧ nv = .int .i64 n ∧ 8 * acc.length ≤ n ∧ Mid l acc n ∧ wr.ownsRow w.heap.size 9 1 ov acc.length (acc.map Value.string) ∧ Below w.heap.size w wr)
  case atStart => exact ⟨0, [], by omega, rfl, by simp, Mid.start _, World.ownsRow_nil _ _ _ _, Below.refl _ _⟩
  case round =>
    obtain ⟨n, acc, hng, rfl, hal, hmid, hown, hB⟩ := hrel
    have hns : n ≤ l.length := hmid.1
    obtain ⟨v2, hrun, hv2⟩ := byts_from w v l n hv hns
    have HM := Lib.hid hmid
    have hBs := hB.size
    clear hmid
    cases hwh : wholeL (l.drop n) with
    | none =>
      have hc : ∀ w1, w1 = wr → Calls Try.prog 22 #[v2] w1 (FirstEnd wr none) := by rintro w1 rfl; have := first_any v2 _ w1 (hv2.below hB); rwa [hwh] at this
      have hd := HM.out.done hwh
      have Hd := Lib.hid hd
      have Hc := Lib.hid hc
      clear hd hc hwh hv2
      go_wp2_with fail
      refine (Hc.out _ rfl).mono ?_
      rintro e w1 ⟨⟨kq, rfl⟩, t, rfl⟩
      have hB1 := below_drewN (Below.refl wr.heap.size wr) kq
      have hown1 := ownsRow_below hown hB1
      have hB01 := hB.trans (hB1.mono hBs)
      clear hown hB hB1
      go_wp2_with fail
      go_ret2
      refine ⟨hB01, _, ?_, Strs.ofRow (by rw [Hd.out]; exact hown1)⟩
      rw [Hd.out]
      rfl
    | some p =>
      have hc : ∀ w1, w1 = wr → Calls Try.prog 22 #[v2] w1 (FirstEnd wr (some p)) := by rintro w1 rfl; have := first_any v2 _ w1 (hv2.below hB); rwa [hwh] at this
      have hst := HM.out.step hwh
      have hle := wholeL_le hwh
      rw [List.length_drop] at hle
      have Hst := Lib.hid hst
      have Hc := Lib.hid hc
      clear hst hc hwh hv2 HM
      go_wp2_with fail
      refine (Hc.out _ rfl).mono ?_
      rintro e w1 ⟨⟨kq, rfl⟩, hee⟩
      obtain rfl := hee
      have hB1 := below_drewN (Below.refl wr.heap.size wr) kq
      have hown1 := ownsRow_below hown hB1
      have hB01 := hB.trans (hB1.mono hBs)
      have hBs1 := hB01.size
      clear hown hB hB1 Hc
      generalize wr.drewN kq = w1 at *
      go_wp2_with (at_builtin; go_must (refine wpList_append_own _ rfl (.tmp 19) (.tmp 21) 23 rfl w.heap.size 9 i0 (.string ⟨#[]⟩) 1 16 Try.underlying23 hi hz0 hz1 hz2 rfl (by decide) _ _ _ rfl (hown1.alloc _) ⟨w1.heap.size, 0, none⟩ 1 1 [.string p] rfl rfl (cell_one_new _ _ _) (by intro u hu; simp at hu; subst hu; rfl) (by unfold maxLen; omega) (by omega) (by simp; omega) ?_); intro v1 w2 hown2 hgrow2 _)
      rw [show acc.map Value.string ++ [Value.string p] = (acc ++ [p]).map Value.string by simp] at hown2
      go_roundg (gk - 8 - p.size)
      case measure => omega
      case rel => exact ⟨n + 8 + p.size, acc ++ [p], by omega, by go_num, by simp; omega, Hst.out, by simpa using hown2, (hB01.alloc hBs1 _).grown hgrow2 (by simp; omega) (fun k hk => (hown1.lt k hk).1)⟩
end Go.Proofs.Ytcbddkncaeancaa
