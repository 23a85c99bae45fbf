/- Walks over the numbers of package code; Walks: the document's number, a part, two lists held against each other; Walks: a text is split; Walks: the document's Split. -/
import Derived.Test.YtdhaanaenklleaaDoorQ4
import Derived.Test.YtdhaanaenklleaaDoorXSJm
import Derived.WalkKit
import Derived.ProofKit
import Derived.OpenShut
import Derived.WalkSpells
import Derived.WalkLawsBesides
import Derived.Below
import Derived.Deep.DeepFit
import Derived.RegionTactic
import Derived.ChangeAlike
import Derived.Deep.QuietTactic
import Derived.BigQuiet
import Derived.Laws.MakeOwn
namespace Go.Proofs.YtdhaanaenklleaaDoor.S
open Go.ChangeShapes Go.WideShapes Go.ChangeAt Go.RowKit

set_option maxRecDepth 100000 in
set_option maxHeartbeats 400000 in
theorem readNum_short (s : ByteArray) (w : World) (h : s.size < 8) :
    Calls Tryd.prog 82 #[.string s] w fun e w' => e = .returned (.tuple #[.int .i64 0, .bool false]) ∧ w = w' := by
  go_enter Tryd.func82, Tryd.ntmps82
  go_wp2
  go_ret2
  exact ⟨rfl, rfl⟩

set_option maxRecDepth 100000 in
set_option maxHeartbeats 400000 in
theorem readNum_long (s : ByteArray) (w : World) (h : 8 ≤ s.size) (hs : s.size ≤ 9223372036854775807) :
    Calls Tryd.prog 82 #[.string s] w fun e w' => e = .returned (.tuple #[.int .i64 (wrap64 (be (s.data.toList.take 8))), .bool true]) ∧ w = w' := by
  go_enter Tryd.func82, Tryd.ntmps82
  go_wp2
  go_loop [4, 5, 9] (fun n _ i => ∃ k : Nat, k ≤ 8 ∧ i = .int .i64 k ∧ n = .int .u64 (be (s.data.toList.take k))) (fun _ _ i => 8 - (intOf i).toNat)
  case atStart => exact ⟨0, by omega, rfl, rfl⟩
  case round =>
    obtain ⟨k, hk, rfl, rfl⟩ := hrel
    by_cases hlt : k < 8
    · have hi : (k : Int) < s.size := by omega
      go_wp2
      refine ⟨⟨k + 1, by omega, by go_num, ?_⟩, by simp [intOf]; omega⟩
      have hb := be_take_lt s k
      have hp : 256 ^ k ≤ 256 ^ 7 := Nat.pow_le_pow_right (by omega) (by omega)
      rw [or_byte _ _ (by omega), be_take s k (by omega)]
    · obtain rfl : k = 8 := by omega
      go_wp2
      go_ret2
      exact ⟨rfl, rfl⟩

set_option maxRecDepth 100000 in
set_option maxHeartbeats 400000 in
theorem number_short (s : ByteArray) (w : World) (h : s.size < 8) :
    Calls Tryd.prog 84 #[.string s] w fun e w' => e = .returned (.tuple #[.int .i64 0, .bool false]) ∧ w = w' := by
  go_enter Tryd.func84, Tryd.ntmps84
  go_wp2
  go_ret2
  exact ⟨rfl, rfl⟩

set_option maxRecDepth 100000 in
set_option maxHeartbeats 400000 in
theorem number_yes (s : ByteArray) (w : World) (h : 8 ≤ s.size) (hs : s.size ≤ 9223372036854775807) (hb : be (s.data.toList.take 8) ≤ 1099511627776) :
    Calls Tryd.prog 84 #[.string s] w fun e w' => e = .returned (.tuple #[.int .i64 (be (s.data.toList.take 8)), .bool true]) ∧ w = w' := by
  go_enter Tryd.func84, Tryd.ntmps84
  go_wp2
  go_loop [4, 5] (fun n i => ∃ k : Nat, k ≤ 8 ∧ i = .int .i64 k ∧ n = .int .i64 (be (s.data.toList.take k))) (fun _ i => 8 - (intOf i).toNat)
  case atStart => exact ⟨0, by omega, rfl, rfl⟩
  case round =>
    obtain ⟨k, hk, rfl, rfl⟩ := hrel
    have hm := be_mono s k 8 hk h
    by_cases hlt : k < 8
    · have hi : (k : Int) < s.size := by omega
      have hn : ¬ (1099511627776 : Int) < be (s.data.toList.take k) := by omega
      have hks : k < s.size := by omega
      have hc : s[k].toNat < 256 := s[k].toNat_lt
      go_wp2
      refine ⟨⟨k + 1, by omega, by go_num, ?_⟩, by simp [intOf]; omega⟩
      rw [be_take s k (by omega)]
      go_num
    · obtain rfl : k = 8 := by omega
      have hd : decide ((be (s.data.toList.take 8) : Int) ≤ 1099511627776) = true := by simp; omega
      go_wp2
      go_ret2
      exact ⟨rfl, rfl⟩

/-- It is no number: some integer, false. -/
def NoNum (w : World) (e : Ending) (w' : World) : Prop := (∃ n : Int, e = .returned (.tuple #[.int .i64 n, .bool false])) ∧ w = w'

set_option maxRecDepth 100000 in
set_option maxHeartbeats 400000 in
theorem number_no (s : ByteArray) (w : World) (h : 8 ≤ s.size) (hs : s.size ≤ 9223372036854775807) (hb : 1099511627776 < be (s.data.toList.take 8)) :
    Calls Tryd.prog 84 #[.string s] w (NoNum w) := by
  go_enter Tryd.func84, Tryd.ntmps84
  go_wp2
  go_loop [4, 5] (fun n i => ∃ k : Nat, k ≤ 8 ∧ i = .int .i64 k ∧ n = .int .i64 (be (s.data.toList.take k))) (fun _ i => 8 - (intOf i).toNat)
  case atStart => exact ⟨0, by omega, rfl, rfl⟩
  case round =>
    obtain ⟨k, hk, rfl, rfl⟩ := hrel
    by_cases hlt : k < 8
    · have hi : (k : Int) < s.size := by omega
      by_cases hn : (1099511627776 : Int) < be (s.data.toList.take k)
      · go_wp2
        go_ret2
        exact ⟨⟨0, rfl⟩, rfl⟩
      · have hks : k < s.size := by omega
        have hc : s[k].toNat < 256 := s[k].toNat_lt
        go_wp2
        refine ⟨⟨k + 1, by omega, by go_num, ?_⟩, by simp [intOf]; omega⟩
        rw [be_take s k (by omega)]
        go_num
    · obtain rfl : k = 8 := by omega
      have hd : decide ((be (s.data.toList.take 8) : Int) ≤ 1099511627776) = false := by simp; omega
      go_wp2
      go_ret2
      exact ⟨⟨_, rfl⟩, rfl⟩
end Go.Proofs.YtdhaanaenklleaaDoor.S
namespace Go.Proofs.YtdhaanaenklleaaDoor.S
open Go.ChangeShapes Go.WideShapes Go.ChangeAt Go.RowKit
set_option maxRecDepth 100000 in
set_option maxHeartbeats 400000 in
theorem cut_short (s : ByteArray) (w : World) (h : s.size < 8) :
    Calls Tryd.prog 83 #[.string s] w fun e w' => e = .returned (.tuple #[.string ⟨#[]⟩, .string ⟨#[]⟩, .bool false]) ∧ w = w' := by
  go_enter Tryd.func83, Tryd.ntmps83
  go_wp2_with fail
  refine (readNum_short s _ h).mono ?_
  rintro e w' ⟨rfl, rfl⟩
  go_wp2
  go_ret3
  exact ⟨rfl, rfl⟩

set_option maxRecDepth 100000 in
set_option maxHeartbeats 400000 in
theorem cut_no (s : ByteArray) (w : World) (h : 8 ≤ s.size) (hs : s.size ≤ 1099511627776) (hn : s.size < len8 s + 8) :
    Calls Tryd.prog 83 #[.string s] w fun e w' => e = .returned (.tuple #[.string ⟨#[]⟩, .string ⟨#[]⟩, .bool false]) ∧ w = w' := by
  have hlt : len8 s < 18446744073709551616 := by have := be_take_lt s 8; unfold len8; omega
  have hm : wrap64 (len8 s) < 0 ∨ (s.size : Int) - 8 < wrap64 (len8 s) := by
    by_cases hb : len8 s < 9223372036854775808
    · rw [IntWalk.wrap64_in _ ⟨by omega, by omega⟩]; omega
    · unfold wrap64; omega
  go_enter Tryd.func83, Tryd.ntmps83
  go_wp2_with fail
  refine (readNum_long s _ h (by omega)).mono ?_
  rintro e w' ⟨rfl, rfl⟩
  rw [show be (s.data.toList.take 8) = len8 s from rfl]
  clear hn hlt
  generalize wrap64 (len8 s : Int) = n at *
  by_cases h0 : n < 0
  · have h1 : decide (n < 0) = true := by simpa using h0
    clear hm h0
    go_wp2
    go_ret3
    exact ⟨rfl, rfl⟩
  · have h1 : decide (n < 0) = false := by simpa using h0
    have h2 : decide ((s.size : Int) - 8 < n) = true := by simp; omega
    clear hm h0
    go_wp2
    go_ret3
    exact ⟨rfl, rfl⟩

set_option maxRecDepth 100000 in
set_option maxHeartbeats 400000 in
theorem cut_yes (s : ByteArray) (w : World) (n : Nat) (h : 8 ≤ s.size) (hs : s.size ≤ 1099511627776) (hn : len8 s = n) (hl : n + 8 ≤ s.size) :
    Calls Tryd.prog 83 #[.string s] w fun e w' => e = .returned (.tuple #[.string (s.extract 8 (8 + n)), .string (s.extract (8 + n) s.size), .bool true]) ∧ ∃ k, w' = w.drewN k := by
  have hw : wrap64 (n : Int) = n := IntWalk.wrap64_in _ ⟨by omega, by omega⟩
  have hr := readNum_long s w h (by omega)
  rw [show be (s.data.toList.take 8) = n from hn, hw] at hr
  have Hr := Lib.hid hr
  clear hr hw hn
  go_enter Tryd.func83, Tryd.ntmps83
  go_wp2_with fail
  refine Hr.out.mono ?_
  rintro e w' ⟨rfl, rfl⟩
  have h1 : decide ((n : Int) < 0) = false := by simp
  have h2 : decide ((s.size : Int) - 8 < n) = false := by simp; omega
  go_wp2
  go_quiet (fail)
  go_wp2
  go_ret3
  exact ⟨rfl, _, rfl⟩
end Go.Proofs.YtdhaanaenklleaaDoor.S
namespace Go.Proofs.YtdhaanaenklleaaDoor.S
open Go.ChangeShapes Go.WideShapes Go.ChangeAt Go.RowKit

theorem cutB_no {s : ByteArray} (h : cutB s = none) : s.size < 8 ∨ 8 ≤ s.size ∧ s.size < len8 s + 8 := by
  unfold cutB at h
  split at h
  · exact .inl ‹_›
  · split at h
    · exact .inr ⟨by omega, ‹_›⟩
    · cases h
theorem cutB_yes {s p r : ByteArray} (h : cutB s = some (p, r)) : 8 ≤ s.size ∧ len8 s + 8 ≤ s.size ∧ p = s.extract 8 (8 + len8 s) ∧ r = s.extract (8 + len8 s) s.size := by
  unfold cutB at h
  split at h
  · cases h
  · split at h
    · cases h
    · cases h
      exact ⟨by omega, by omega, rfl, rfl⟩

theorem cut_none (s : ByteArray) (w : World) (hs : s.size ≤ 1099511627776) (h : cutB s = none) :
    Calls Tryd.prog 83 #[.string s] w fun e w' => e = .returned (.tuple #[.string ⟨#[]⟩, .string ⟨#[]⟩, .bool false]) ∧ w = w' := by
  rcases cutB_no h with h1 | ⟨h1, h2⟩
  · exact cut_short s w h1
  · exact cut_no s w h1 hs h2
theorem cut_some (s p r : ByteArray) (w : World) (hs : s.size ≤ 1099511627776) (h : cutB s = some (p, r)) :
    Calls Tryd.prog 83 #[.string s] w fun e w' => e = .returned (.tuple #[.string p, .string r, .bool true]) ∧ ∃ k, w' = w.drewN k := by
  obtain ⟨h1, h2, rfl, rfl⟩ := cutB_yes h
  exact cut_yes s w (len8 s) h1 hs rfl h2

theorem ended_left (acc : List ByteArray) {r : ByteArray} (he : ¬ r.size = 0) : ended (some (acc, r)) = none := if_neg he

/-- Split's answer: the parts, in memory of its own, and no error; or none, and ErrForm. -/
def SplitEnd (w : World) (r : Option (List ByteArray)) (e : Ending) (w' : World) : Prop :=
  Below w.heap.size w w' ∧ match r with
  | none => e = .returned (.tuple #[.slice none 0 0, .int .i64 4])
  | some ps => ∃ v, e = .returned (.tuple #[v, .int .i64 0]) ∧ Strs w' v ps

set_option maxRecDepth 100000 in
set_option maxHeartbeats 400000 in
theorem split_long (s : ByteArray) (w : World) (h : 1048576 < s.size) (hs : s.size ≤ 9223372036854775807) :
    Calls Tryd.prog 52 #[.string s] w fun e w' => e = .returned (.tuple #[.slice none 0 0, .int .i64 3]) ∧ w = w' := by
  go_enter Tryd.func52, Tryd.ntmps52
  go_wp2_with fail
  go_ret2
  exact ⟨rfl, rfl⟩

set_option maxRecDepth 100000 in
set_option maxHeartbeats 400000 in
theorem split_short (s : ByteArray) (w : World) (h : s.size < 8) :
    Calls Tryd.prog 52 #[.string s] w (SplitEnd w (splitB s)) := by
  have e : splitB s = none := by unfold splitB; rw [if_pos h]
  rw [e]
  clear e
  go_enter Tryd.func52, Tryd.ntmps52
  go_wp2_with fail
  refine (readNum_short s _ h).mono ?_
  rintro e w' ⟨rfl, rfl⟩
  go_wp2_with fail
  go_ret2
  exact ⟨Below.refl _ _, rfl⟩

set_option maxRecDepth 100000 in
set_option maxHeartbeats 400000 in
theorem split_many (s : ByteArray) (w : World) (h : 8 ≤ s.size) (hs : s.size ≤ 1048576) (hn : s.size / 8 < len8 s) :
    Calls Tryd.prog 52 #[.string s] w (SplitEnd w (splitB s)) := by
  rw [splitB_many hn]
  have hlt : len8 s < 18446744073709551616 := by have := be_take_lt s 8; unfold len8; omega
  have hm : wrap64 (len8 s) < 0 ∨ (s.size : Int) / 8 < wrap64 (len8 s) := by
    by_cases hb : len8 s < 9223372036854775808
    · rw [IntWalk.wrap64_in _ ⟨by omega, by omega⟩]; omega
    · unfold wrap64; omega
  go_enter Tryd.func52, Tryd.ntmps52
  go_wp2_with fail
  refine (readNum_long s _ h (by omega)).mono ?_
  rintro e w' ⟨rfl, rfl⟩
  rw [show be (s.data.toList.take 8) = len8 s from rfl]
  clear hn hlt
  generalize wrap64 (len8 s : Int) = n at *
  by_cases h0 : n < 0
  · have h1 : decide (n < 0) = true := by simpa using h0
    clear hm h0
    go_wp2_with fail
    go_ret2
    exact ⟨Below.refl _ _, rfl⟩
  · have h1 : decide (n < 0) = false := by simpa using h0
    have h2 : decide ((s.size : Int) / 8 < n) = true := by simp; omega
    clear hm h0
    go_wp2_with fail
    go_ret2
    exact ⟨Below.refl _ _, rfl⟩

theorem Tryd.info9 : (Tryd.prog.info? 9).map (fun i => (i.zero, i.size, i.bytes)) = some (some (.string ⟨#[]⟩), 1, 16) := by kernel_rfl

set_option maxRecDepth 100000 in
set_option maxHeartbeats 400000 in
theorem split_few (s : ByteArray) (w : World) (n : Nat) (h : 8 ≤ s.size) (hs : s.size ≤ 1048576) (hn : len8 s = n) (hf : n ≤ s.size / 8) :
    Calls Tryd.prog 52 #[.string s] w (SplitEnd w (splitB s)) := by
  obtain ⟨i0, hi, hz0, hz1, hz2⟩ := info_parts Tryd.info9
  have hw : wrap64 (n : Int) = n := IntWalk.wrap64_in _ ⟨by omega, by omega⟩
  have hr := readNum_long s w h (by omega)
  rw [show be (s.data.toList.take 8) = n from hn, hw] at hr
  have Hr := Lib.hid hr
  have Hn := Lib.hid hn
  clear hr hw hn
  go_enter Tryd.func52, Tryd.ntmps52
  go_wp2_with fail
  refine Hr.out.mono ?_
  rintro e w' ⟨rfl, rfl⟩
  have h1 : decide ((n : Int) < 0) = false := by simp
  have h2 : decide ((s.size : Int) / 8 < n) = false := by simp; omega
  go_wp2_with (at_make; refine wpList_make_own _ rfl _ _ 81 rfl w.heap.size 9 i0 (.string ⟨#[]⟩) 1 Tryd.underlying81 hi hz0 hz1 .i64 .i64 _ n rfl rfl (by omega) (by rw [hz2]; omega) (by unfold maxLen; omega) (Nat.le_refl _) ?_; intro w0 hown0 hgrow0)
  have hsp : splitB s = ended (cutsB n (s.extract 8 s.size)) := by
    unfold splitB; rw [if_neg (by omega), Hn.out]
  have Hsp := Lib.hid hsp
  clear hsp h1 h2
  have hrs : (s.extract 8 s.size).size ≤ 1048576 := by rw [ByteArray.size_extract]; omega
  generalize hr0 : s.extract 8 s.size = r0 at *
  clear hr0
  go_loopw [6, 7, 37] (fun v rv i wr => ∃ (j m : Nat) (acc : List ByteArray) (r : ByteArray), j + m = n ∧ i = .int .i64 j ∧ rv = .string r ∧ r.size ≤ 1048576 ∧ Mid n r0 m acc r ∧ wr.ownsRow w.heap.size 9 1 v j (acc.map Value.string) ∧ Below w.heap.size w wr) (fun _ _ i _ => n - (intOf i).toNat)
  case atStart => exact ⟨0, n, [], _, by omega, rfl, rfl, hrs, Mid.start _ _, hown0, (Below.refl _ _).grown hgrow0 (Nat.le_refl _) (fun k h => by cases h)⟩
  case round =>
    obtain ⟨j, m, acc, r, hjm, rfl, rfl, hrz, hmid, hown, hB⟩ := hrel
    have HM := Lib.hid hmid
    have HJ := Lib.hid hjm
    have hBs := hB.size
    clear hmid hown0 hgrow0
    by_cases hlt : j < n
    · have hm1 : m = (m - 1) + 1 := by omega
      have hjm2 : j + m ≤ n := by omega
      clear hjm
      cases hcr : cutB r with
      | none =>
        have hstop : cutsB n r0 = none := by
          have := HM.out
          rw [hm1] at this
          exact this.stop hcr
        have hc := cut_none r wr (by omega) hcr
        have Hst := Lib.hid hstop
        clear hm1 hstop hcr
        go_wp2_with fail
        refine hc.mono ?_
        rintro e w1 ⟨rfl, rfl⟩
        go_wp2_with fail
        go_ret2
        refine ⟨hB, ?_⟩
        rw [Hsp.out, Hst.out]
        rfl
      | some pr =>
        obtain ⟨p, q⟩ := pr
        have hmid2 : Mid n r0 (m - 1) (acc ++ [p]) q := by
          have := HM.out
          rw [hm1] at this
          exact this.step hcr
        have hc := cut_some r p q wr (by omega) hcr
        have hqz := cutB_size hcr
        have HM2 := Lib.hid hmid2
        have hq2 : q.size ≤ 1048576 := by omega
        clear hm1 hmid2 hcr HM hqz
        go_wp2_with fail
        refine hc.mono ?_
        rintro e w1 ⟨rfl, nq, rfl⟩
        clear hc
        have hownd := ownsRow_below hown (below_drewN (Below.refl wr.heap.size wr) nq)
        have hBd := below_drewN hB nq
        clear hown hB
        generalize wr.drewN nq = wd at *
        have hBs2 := hBd.size
        go_wp2_with (at_builtin; go_must (refine wpList_append_own _ rfl (.tmp 47) (.tmp 49) 81 rfl w.heap.size 9 i0 (.string ⟨#[]⟩) 1 16 Tryd.underlying81 hi hz0 hz1 hz2 rfl (by decide) _ _ _ rfl (hownd.alloc _) ⟨wd.heap.size, 0, none⟩ 1 1 [.string p] rfl rfl (cell_one_new _ _ _) (by intro u hu; simp at hu; subst hu; rfl) (by unfold maxLen; omega) (by omega) (by simp; omega) ?_); intro v1 w2 hown1 hgrow1 _)
        rw [show acc.map Value.string ++ [Value.string p] = (acc ++ [p]).map Value.string by simp] at hown1
        refine ⟨⟨j + 1, m - 1, acc ++ [p], q, by have := HJ.out; omega, by go_num, rfl, hq2, HM2.out, hown1, (hBd.alloc hBs2 _).grown hgrow1 (by simp; omega) (fun k hk => (hownd.lt k hk).1)⟩, by simp [intOf]; omega⟩
    · obtain rfl : j = n := by omega
      have hm0 : m = 0 := by omega
      subst hm0
      have hdone := HM.out.done
      have Hd := Lib.hid hdone
      clear hdone hjm
      by_cases he : r.size = 0
      · have hre : r = ⟨#[]⟩ := by
          cases r with
          | mk d => simp [ByteArray.size] at he; simp [he]
        subst hre
        go_wp2_with fail
        go_ret2
        refine ⟨hB, ?_⟩
        rw [Hsp.out, Hd.out]
        exact ⟨_, rfl, Strs.ofRow hown⟩
      · have hne : ¬ r.toList = [] := by
          rw [Lib.toList_data]; intro e; apply he; simp [ByteArray.size, ← Array.length_toList, e]
        have hne1 : r.toList.isEmpty = false := by simpa using hne
        go_wp2_with fail
        go_ret2
        refine ⟨hB, ?_⟩
        rw [Hsp.out, Hd.out, ended_left acc he]
        rfl

theorem split_any (s : ByteArray) (w : World) (hs : s.size ≤ 1048576) : Calls Tryd.prog 52 #[.string s] w (SplitEnd w (splitB s)) := by
  by_cases h8 : s.size < 8
  · exact split_short s w h8
  · by_cases hn : s.size / 8 < len8 s
    · exact split_many s w (by omega) hs hn
    · exact split_few s w (len8 s) (by omega) hs rfl (by omega)
end Go.Proofs.YtdhaanaenklleaaDoor.S
namespace Go.Proofs.YtdhaanaenklleaaDoor.S
open Go.ChangeShapes Go.WideShapes Go.ChangeAt Go.RowKit

/-- The document's answer: the parts, and true; or some list, and false. -/
def RefEnd (w : World) (r : Option (List ByteArray)) (e : Ending) (w' : World) : Prop :=
  Below w.heap.size w w' ∧ match r with
  | none => ∃ v, e = .returned (.tuple #[v, .bool false])
  | some ps => ∃ v, e = .returned (.tuple #[v, .bool true]) ∧ Strs w' v ps

set_option maxRecDepth 100000 in
set_option maxHeartbeats 400000 in
theorem refSplit_short (s : ByteArray) (w : World) (h : s.size < 8) :
    Calls Tryd.prog 54 #[.string s] w (RefEnd w (splitB s)) := by
  have e : splitB s = none := by unfold splitB; rw [if_pos h]
  rw [e]
  clear e
  go_enter Tryd.func54, Tryd.ntmps54
  go_wp2_with fail
  refine (number_short s _ h).mono ?_
  rintro e w' ⟨rfl, rfl⟩
  go_wp2_with fail
  go_ret2
  exact ⟨Below.refl _ _, _, rfl⟩

set_option maxRecDepth 100000 in
set_option maxHeartbeats 400000 in
theorem refSplit_great (s : ByteArray) (w : World) (h : 8 ≤ s.size) (hs : s.size ≤ 1048576) (hn : 1099511627776 < len8 s) :
    Calls Tryd.prog 54 #[.string s] w (RefEnd w (splitB s)) := by
  rw [splitB_many (by omega)]
  go_enter Tryd.func54, Tryd.ntmps54
  go_wp2_with fail
  refine (number_no s _ h (by omega) hn).mono ?_
  rintro e w' ⟨⟨n, rfl⟩, rfl⟩
  go_wp2_with fail
  go_ret2
  exact ⟨Below.refl _ _, _, rfl⟩

set_option maxRecDepth 100000 in
set_option maxHeartbeats 400000 in
theorem refSplit_some (s : ByteArray) (w : World) (n : Nat) (h : 8 ≤ s.size) (hs : s.size ≤ 1048576) (hn : len8 s = n) (hf : n ≤ 1099511627776) :
    Calls Tryd.prog 54 #[.string s] w (RefEnd w (splitB s)) := by
  obtain ⟨i0, hi, hz0, hz1, hz2⟩ := info_parts Tryd.info9
  have hr := number_yes s w h (by omega) (by rw [show be (s.data.toList.take 8) = n from hn]; exact hf)
  rw [show be (s.data.toList.take 8) = n from hn] at hr
  have hsp : splitB s = ended (cutsB n (s.extract 8 s.size)) := by
    unfold splitB; rw [if_neg (by omega), hn]
  have Hsp := Lib.hid hsp
  have Hr := Lib.hid hr
  clear hr hn hsp
  go_enter Tryd.func54, Tryd.ntmps54
  go_wp2_with fail
  refine Hr.out.mono ?_
  rintro e w' ⟨rfl, rfl⟩
  go_wp2_with fail
  have hrs : (s.extract 8 s.size).size ≤ 1048576 := by rw [ByteArray.size_extract]; omega
  generalize hr0 : s.extract 8 s.size = r0 at *
  clear hr0
  go_loopw [0, 4, 6] (fun rv i v wr => ∃ (j m : Nat) (acc : List ByteArray) (r : ByteArray), j + m = n ∧ i = .int .i64 m ∧ rv = .string r ∧ r.size + 8 * j ≤ 1048576 ∧ Mid n r0 m acc r ∧ wr.ownsRow w.heap.size 9 1 v j (acc.map Value.string) ∧ Below w.heap.size w wr) (fun _ i _ _ => (intOf i).toNat)
  case atStart => exact ⟨0, n, [], _, by omega, rfl, rfl, by omega, Mid.start _ _, World.ownsRow_nil _ _ _ _, Below.refl _ _⟩
  case round =>
    obtain ⟨j, m, acc, r, hjm, rfl, rfl, hrz, hmid, hown, hB⟩ := hrel
    have HM := Lib.hid hmid
    have HJ := Lib.hid hjm
    have hBs := hB.size
    clear hmid
    by_cases hlt : 0 < m
    · have hm1 : m = (m - 1) + 1 := by omega
      have hjm2 : j + m ≤ n := by omega
      clear hjm
      cases hcr : cutB r with
      | none =>
        have hstop : cutsB n r0 = none := by
          have := HM.out
          rw [hm1] at this
          exact this.stop hcr
        have Hst := Lib.hid hstop
        clear hm1 hstop
        rcases cutB_no hcr with h1 | ⟨h1, h2⟩
        · clear hcr
          go_wp2_with fail
          refine (number_short r _ h1).mono ?_
          rintro e w' ⟨rfl, rfl⟩
          go_wp2_with fail
          go_ret2
          refine ⟨hB, ?_⟩
          rw [Hsp.out, Hst.out]
          exact ⟨_, rfl⟩
        · clear hcr
          by_cases h3 : len8 r ≤ 1099511627776
          · go_wp2_with fail
            refine (number_yes r _ h1 (by omega) h3).mono ?_
            rintro e w' ⟨rfl, rfl⟩
            rw [show be (r.data.toList.take 8) = len8 r from rfl]
            generalize len8 r = q at *
            have h4 : decide ((r.size : Int) - 8 < q) = true := by simp; omega
            go_wp2_with fail
            go_ret2
            refine ⟨hB, ?_⟩
            rw [Hsp.out, Hst.out]
            exact ⟨_, rfl⟩
          · go_wp2_with fail
            refine (number_no r _ h1 (by omega) (by unfold len8 at h3; omega)).mono ?_
            rintro e w' ⟨⟨q, rfl⟩, rfl⟩
            go_wp2_with fail
            go_ret2
            refine ⟨hB, ?_⟩
            rw [Hsp.out, Hst.out]
            exact ⟨_, rfl⟩
      | some pr =>
        obtain ⟨p, q⟩ := pr
        have hmid2 : Mid n r0 (m - 1) (acc ++ [p]) q := by
          have := HM.out
          rw [hm1] at this
          exact this.step hcr
        have hqz := cutB_size hcr
        obtain ⟨h1, h2, hp, hq⟩ := cutB_yes hcr
        have HM2 := Lib.hid hmid2
        have hq2 : q.size + 8 * (j + 1) ≤ 1048576 := by omega
        have Hp := Lib.hid hp
        have Hq := Lib.hid hq
        clear hm1 hmid2 hcr HM hqz hp hq
        have hc := number_yes r wr h1 (by omega) (by unfold len8 at h2; omega)
        rw [show be (r.data.toList.take 8) = len8 r from rfl] at hc
        have Hc := Lib.hid hc
        clear hc
        generalize len8 r = l at *
        have h4 : decide ((r.size : Int) - 8 < l) = false := by simp; omega
        have hl8 : l ≤ 1048576 := by omega
        go_wp2_with fail
        refine Hc.out.mono ?_
        rintro e w' ⟨rfl, rfl⟩
        go_wp2_with (at_builtin; go_must (refine wpList_append_own _ rfl (.tmp 36) (.tmp 41) 81 rfl w.heap.size 9 i0 (.string ⟨#[]⟩) 1 16 Tryd.underlying81 hi hz0 hz1 hz2 rfl (by decide) _ _ _ rfl (hown.alloc _) ⟨wr.heap.size, 0, none⟩ 1 1 [.string (r.extract 8 (8 + l))] rfl rfl (cell_one_new _ _ _) (by intro u hu; simp at hu; subst hu; rfl) (by unfold maxLen; omega) (by omega) (by simp; omega) ?_); intro v1 w2 hown1 hgrow1 _)
        rw [show acc.map Value.string ++ [Value.string (r.extract 8 (8 + l))] = (acc ++ [p]).map Value.string by rw [Hp.out]; simp] at hown1
        refine ⟨⟨j + 1, m - 1, acc ++ [p], q, by have := HJ.out; omega, ?_, by rw [Hq.out], hq2, HM2.out, hown1, (hB.alloc hBs _).grown hgrow1 (by simp; omega) (fun k hk => (hown.lt k hk).1)⟩, by simp [intOf]; omega⟩
        rw [show ((m - 1 : Nat) : Int) = (m : Int) - 1 by omega]
    · have hm0 : m = 0 := by omega
      subst hm0
      have hdone := HM.out.done
      have Hd := Lib.hid hdone
      clear hdone hjm
      by_cases he : r.size = 0
      · have hre : r = ⟨#[]⟩ := by
          cases r with
          | mk d => simp [ByteArray.size] at he; simp [he]
        subst hre
        go_wp2_with fail
        go_ret2
        refine ⟨hB, ?_⟩
        rw [Hsp.out, Hd.out]
        exact ⟨_, rfl, Strs.ofRow hown⟩
      · have hne : ¬ r.toList = [] := by
          rw [Lib.toList_data]; intro e; apply he; simp [ByteArray.size, ← Array.length_toList, e]
        have hne1 : r.toList.isEmpty = false := by simpa using hne
        go_wp2_with fail
        go_ret2
        refine ⟨hB, ?_⟩
        rw [Hsp.out, Hd.out, ended_left acc he]
        exact ⟨_, rfl⟩

theorem refSplit_any (s : ByteArray) (w : World) (hs : s.size ≤ 1048576) : Calls Tryd.prog 54 #[.string s] w (RefEnd w (splitB s)) := by
  by_cases h8 : s.size < 8
  · exact refSplit_short s w h8
  · by_cases hn : 1099511627776 < len8 s
    · exact refSplit_great s w (by omega) hs hn
    · exact refSplit_some s w (len8 s) (by omega) hs rfl (by omega)
end Go.Proofs.YtdhaanaenklleaaDoor.S
