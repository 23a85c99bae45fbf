/- Walks: the document's Split. -/
import Derived.Test.YtkjbhodcgpbmmaaWg
namespace Go.Proofs.Ytkjbhodcgpbmmaa
open Go.ChangeShapes Go.WideShapes Go.ChangeAt Go.RowKit

/-- The document's answer: the parts, and true; or some list, and false. -/
def RefEnd (w : World) (r : Option (List ByteArray)) (e : Ending) (w' : World) : Prop :=
  Below w.heap.size w w' ∧ match r with
  | none => ∃ v, e = .returned (.tuple #[v, .bool false])
  | some ps => ∃ v, e = .returned (.tuple #[v, .bool true]) ∧ Strs w' v ps

set_option maxHeartbeats 400000 in
theorem refSplit_short (s : ByteArray) (w : World) (h : s.size < 8) :
    Calls Try.prog 17 #[.string s] w (RefEnd w (splitB s)) := by
  have e : splitB s = none := by unfold splitB; rw [if_pos h]
  rw [e]
  clear e
  go_enter Try.func17, Try.ntmps17
  go_wp2_with fail
  refine (number_short s _ h).mono ?_
  rintro e w' ⟨rfl, rfl⟩
  go_wp2_with fail
  go_ret2
  exact ⟨Below.refl _ _, _, rfl⟩

set_option maxHeartbeats 400000 in
theorem refSplit_great (s : ByteArray) (w : World) (h : 8 ≤ s.size) (hs : s.size ≤ 1048576) (hn : 1099511627776 < len8 s) :
    Calls Try.prog 17 #[.string s] w (RefEnd w (splitB s)) := by
  rw [splitB_many (by omega)]
  go_enter Try.func17, Try.ntmps17
  go_wp2_with fail
  refine (number_no s _ h (by omega) hn).mono ?_
  rintro e w' ⟨⟨n, rfl⟩, rfl⟩
  go_wp2_with fail
  go_ret2
  exact ⟨Below.refl _ _, _, rfl⟩

set_option maxHeartbeats 400000 in
theorem refSplit_some (s : ByteArray) (w : World) (n : Nat) (h : 8 ≤ s.size) (hs : s.size ≤ 1048576) (hn : len8 s = n) (hf : n ≤ 1099511627776) :
    Calls Try.prog 17 #[.string s] w (RefEnd w (splitB s)) := by
  obtain ⟨i0, hi, hz0, hz1, hz2⟩ := info_parts Try.info9
  have hr := number_yes s w h (by omega) (by rw [show be (s.data.toList.take 8) = n from hn]; exact hf)
  rw [show be (s.data.toList.take 8) = n from hn] at hr
  have hsp : splitB s = ended (cutsB n (s.extract 8 s.size)) := by
    unfold splitB; rw [if_neg (by omega), hn]
  have Hsp := Lib.hid hsp
  have Hr := Lib.hid hr
  clear hr hn hsp
  go_enter Try.func17, Try.ntmps17
  go_wp2_with fail
  refine Hr.out.mono ?_
  rintro e w' ⟨rfl, rfl⟩
  go_wp2_with fail
  have hrs : (s.extract 8 s.size).size ≤ 1048576 := by rw [ByteArray.size_extract]; omega
  generalize hr0 : s.extract 8 s.size = r0 at *
  clear hr0
  go_loopw [0, 4, 6] (fun rv i v wr => ∃ (j m : Nat) (acc : List ByteArray) (r : ByteArray), j + m = n ∧ i = .int .i64 m ∧ rv = .string r ∧ r.size + 8 * j ≤ 1048576 ∧ Mid n r0 m acc r ∧ wr.ownsRow w.heap.size 9 1 v j (acc.map Value.string) ∧ Below w.heap.size w wr) (fun _ i _ _ => (intOf i).toNat)
  case atStart => exact ⟨0, n, [], _, by omega, rfl, rfl, by omega, Mid.start _ _, World.ownsRow_nil _ _ _ _, Below.refl _ _⟩
  case round =>
    obtain ⟨j, m, acc, r, hjm, rfl, rfl, hrz, hmid, hown, hB⟩ := hrel
    have HM := Lib.hid hmid
    have HJ := Lib.hid hjm
    have hBs := hB.size
    clear hmid
    by_cases hlt : 0 < m
    · have hm1 : m = (m - 1) + 1 := by omega
      have hjm2 : j + m ≤ n := by omega
      clear hjm
      cases hcr : cutB r with
      | none =>
        have hstop : cutsB n r0 = none := by
          have := HM.out
          rw [hm1] at this
          exact this.stop hcr
        have Hst := Lib.hid hstop
        clear hm1 hstop
        rcases cutB_no hcr with h1 | ⟨h1, h2⟩
        · clear hcr
          go_wp2_with fail
          refine (number_short r _ h1).mono ?_
          rintro e w' ⟨rfl, rfl⟩
          go_wp2_with fail
          go_ret2
          refine ⟨hB, ?_⟩
          rw [Hsp.out, Hst.out]
          exact ⟨_, rfl⟩
        · clear hcr
          by_cases h3 : len8 r ≤ 1099511627776
          · go_wp2_with fail
            refine (number_yes r _ h1 (by omega) h3).mono ?_
            rintro e w' ⟨rfl, rfl⟩
            rw [show be (r.data.toList.take 8) = len8 r from rfl]
            generalize len8 r = q at *
            have h4 : decide ((r.size : Int) - 8 < q) = true := by simp; omega
            go_wp2_with fail
            go_ret2
            refine ⟨hB, ?_⟩
            rw [Hsp.out, Hst.out]
            exact ⟨_, rfl⟩
          · go_wp2_with fail
            refine (number_no r _ h1 (by omega) (by unfold len8 at h3; omega)).mono ?_
            rintro e w' ⟨⟨q, rfl⟩, rfl⟩
            go_wp2_with fail
            go_ret2
            refine ⟨hB, ?_⟩
            rw [Hsp.out, Hst.out]
            exact ⟨_, rfl⟩
      | some pr =>
        obtain ⟨p, q⟩ := pr
        have hmid2 : Mid n r0 (m - 1) (acc ++ [p]) q := by
          have := HM.out
          rw [hm1] at this
          exact this.step hcr
        have hqz := cutB_size hcr
        obtain ⟨h1, h2, hp, hq⟩ := cutB_yes hcr
        have HM2 := Lib.hid hmid2
        have hq2 : q.size + 8 * (j + 1) ≤ 1048576 := by omega
        have Hp := Lib.hid hp
        have Hq := Lib.hid hq
        clear hm1 hmid2 hcr HM hqz hp hq
        have hc := number_yes r wr h1 (by omega) (by unfold len8 at h2; omega)
        rw [show be (r.data.toList.take 8) = len8 r from rfl] at hc
        have Hc := Lib.hid hc
        clear hc
        generalize len8 r = l at *
        have h4 : decide ((r.size : Int) - 8 < l) = false := by simp; omega
        have hl8 : l ≤ 1048576 := by omega
        go_wp2_with fail
        refine Hc.out.mono ?_
        rintro e w' ⟨rfl, rfl⟩
        go_wp2_with (at_builtin; go_must (refine wpList_append_own _ rfl (.tmp 36) (.tmp 41) 22 rfl w.heap.size 9 i0 (.string ⟨#[]⟩) 1 16 Try.underlying22 hi hz0 hz1 hz2 rfl (by decide) _ _ _ rfl (hown.alloc _) ⟨wr.heap.size, 0, none⟩ 1 1 [.string (r.extract 8 (8 + l))] rfl rfl (cell_one_new _ _ _) (by intro u hu; simp at hu; subst hu; rfl) (by unfold maxLen; omega) (by omega) (by simp; omega) ?_); intro v1 w2 hown1 hgrow1 _)
        rw [show acc.map Value.string ++ [Value.string (r.extract 8 (8 + l))] = (acc ++ [p]).map Value.string by rw [Hp.out]; simp] at hown1
        refine ⟨⟨j + 1, m - 1, acc ++ [p], q, by have := HJ.out; omega, ?_, by rw [Hq.out], hq2, HM2.out, hown1, (hB.alloc hBs _).grown hgrow1 (by simp; omega) (fun k hk => (hown.lt k hk).1)⟩, by simp [intOf]; omega⟩
        rw [show ((m - 1 : Nat) : Int) = (m : Int) - 1 by omega]
    · have hm0 : m = 0 := by omega
      subst hm0
      have hdone := HM.out.done
      have Hd := Lib.hid hdone
      clear hdone hjm
      by_cases he : r.size = 0
      · have hre : r = ⟨#[]⟩ := by
          cases r with
          | mk d => simp [ByteArray.size] at he; simp [he]
        subst hre
        go_wp2_with fail
        go_ret2
        refine ⟨hB, ?_⟩
        rw [Hsp.out, Hd.out]
        exact ⟨_, rfl, Strs.ofRow hown⟩
      · have hne : ¬ r.toList = [] := by
          rw [Lib.toList_data]; intro e; apply he; simp [ByteArray.size, ← Array.length_toList, e]
        have hne1 : r.toList.isEmpty = false := by simpa using hne
        go_wp2_with fail
        go_ret2
        refine ⟨hB, ?_⟩
        rw [Hsp.out, Hd.out, ended_left acc he]
        exact ⟨_, rfl⟩

theorem refSplit_any (s : ByteArray) (w : World) (hs : s.size ≤ 1048576) : Calls Try.prog 17 #[.string s] w (RefEnd w (splitB s)) := by
  by_cases h8 : s.size < 8
  · exact refSplit_short s w h8
  · by_cases hn : 1099511627776 < len8 s
    · exact refSplit_great s w (by omega) hs hn
    · exact refSplit_some s w (len8 s) (by omega) hs rfl (by omega)
end Go.Proofs.Ytkjbhodcgpbmmaa
