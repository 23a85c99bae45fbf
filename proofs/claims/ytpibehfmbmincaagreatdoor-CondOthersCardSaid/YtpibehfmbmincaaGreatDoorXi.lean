/- Walks: the program's Of answers ofB; Hidden, Unix, System and Processor beside the document's own. -/
import Derived.Test.YtpibehfmbmincaaGreatDoorXg
import Derived.Test.YtpibehfmbmincaaGreatDoorXh
import Derived.Test.YtpibehfmbmincaaGreatDoorSh
namespace Go.Proofs.YtpibehfmbmincaaGreatDoor
set_option linter.unusedVariables false
open Go.ChangeShapes Go.WideShapes Go.ChangeAt Go.RowKit

theorem ends_lib (s p : ByteArray) : Lib.hasSuffix s.data.toList p.data.toList = endsB s p := by
  rw [← Lib.hasSuffix_raw]
  unfold endsB
  by_cases h : p.size ≤ s.size
  · by_cases he : s.extract (s.size - p.size) s.size = p
    · rw [beq_of he]; simp [h, he]
    · rw [beq_of_ne he]; simp [he]
  · simp [h]
def cutE (s p : ByteArray) : ByteArray := if endsB s p then s.extract 0 (s.size - p.size) else s
theorem cutE_lib (s p : ByteArray) : (⟨(Lib.trimSuffix s.data.toList p.data.toList).toArray⟩ : ByteArray) = cutE s p := by
  unfold Lib.trimSuffix cutE
  rw [ends_lib]
  by_cases h : endsB s p = true
  · rw [if_pos h, if_pos h, ba_len, ba_len]
    apply ba_ext
    rw [Lib.extract_data]
    simp
  · rw [if_neg h, if_neg h]
theorem cutSuf_any (s p : ByteArray) (w : World) (hs : s.size ≤ 1073741824) : Calls Tryz.prog 28 #[.string s, .string p] w fun e w' => e = .returned (.tuple #[.string (cutE s p), .bool (endsB s p)]) ∧ w = w' := by
  refine (Tryz.strings_CutSuffix s p w (by omega)).mono ?_
  rintro e w' ⟨rfl, rfl⟩
  rw [cutE_lib, ends_lib]
  exact ⟨rfl, rfl⟩
theorem pre_one (l : List UInt8) (c : UInt8) : Lib.hasPrefix l [c] = (l.head? == some c) := by
  unfold Lib.hasPrefix
  cases l with
  | nil => rfl
  | cons x r =>
    show ((c == x) && true) = (some x == some c)
    rw [Bool.and_true, Bool.eq_iff_iff]
    simp only [beq_iff_eq, Option.some.injEq]
    exact eq_comm
theorem prefix_one (s : ByteArray) (c : UInt8) (w : World) : Calls Tryz.prog 43 #[.string s, .string ⟨#[c]⟩] w fun e w' => e = .returned (.bool (s.data.toList.head? == some c)) ∧ w = w' := by
  refine (Tryz.strings_HasPrefix s ⟨#[c]⟩ w).mono ?_
  rintro e w' ⟨rfl, rfl⟩
  rw [show Lib.hasPrefix s.data.toList (⟨#[c]⟩ : ByteArray).data.toList = _ from pre_one _ _]
  exact ⟨rfl, rfl⟩
theorem passed_any (s : ByteArray) (w : World) : Calls Tryz.prog 29 #[.string s] w fun e w' => e = .returned (.bool (passB s)) ∧ w = w' := by
  have H1 := Lib.hid (fun w1 => prefix_one s 95 w1)
  have H2 := Lib.hid (fun w1 => prefix_one s 46 w1)
  unfold passB
  generalize (s.data.toList.head? == some 95) = a at *
  generalize (s.data.toList.head? == some 46) = b at *
  cases a
  · go_enter Tryz.func29, Tryz.ntmps29
    go_wp2_with fail
    refine (H1.out _).mono ?_
    rintro e w1 ⟨rfl, rfl⟩
    go_wp2_with fail
    refine (H2.out _).mono ?_
    rintro e w1 ⟨rfl, rfl⟩
    go_wp2_with fail
    go_ret
    exact ⟨rfl, rfl⟩
  · go_enter Tryz.func29, Tryz.ntmps29
    go_wp2_with fail
    refine (H1.out _).mono ?_
    rintro e w1 ⟨rfl, rfl⟩
    go_wp2_with fail
    go_ret
    exact ⟨rfl, rfl⟩

def agg4 (r : Bool × Bool × ByteArray × ByteArray) : Value := .agg #[.bool r.1, .bool r.2.1, .string r.2.2.1, .string r.2.2.2]
theorem split_any (s : ByteArray) (m : Int) (w : World) (hs : s.size ≤ 1073741824) (hm : w.cell? ⟨3, 0, none⟩ = some (.int .i64 m)) :
    Calls Tryz.prog 30 #[.string s, .string ⟨#[95]⟩] w fun e w' => e = .returned (.slice (some ⟨w.heap.size, 0, none⟩) ((cutB 95 s).length - 1 + 1) ((cutB 95 s).length - 1 + 1)) ∧ w' = w.alloc (.cells ((cutB 95 s).map Value.string).toArray 9) := by
  refine (Tryz.strings_Split s (mkB [95]) m w (by omega) hm (by decide)).mono ?_
  rintro e w' ⟨rfl, rfl⟩
  rw [splitB_cut, cutB_len]
  exact ⟨rfl, rfl⟩
theorem arr_at (L : List ByteArray) (k : Nat) (h : k < L.length) : (L.map Value.string).toArray[k]? = some (.string (L.getD k ByteArray.empty)) := by
  simp [List.getD, h]

set_option maxHeartbeats 1000000 in
theorem of_any (s : ByteArray) (m : Int) (w : World) (hs : s.size ≤ 1073741824) (hm : w.cell? ⟨3, 0, none⟩ = some (.int .i64 m)) : Calls Tryz.prog 17 #[.string s] w fun e w' => e = .returned (agg4 (ofB s)) ∧ Below w.heap.size w w' := by
  have HC : ∀ w1, Calls Tryz.prog 28 #[.string s, .string ⟨#[46, 103, 111]⟩] w1 fun e w' => e = .returned (.tuple #[.string (cutE s goE), .bool (endsB s goE)]) ∧ w1 = w' := fun w1 => cutSuf_any s goE w1 hs
  have HP := fun w1 => passed_any s w1
  by_cases he : endsB s goE = true
  · have e1 : cutE s goE = s.extract 0 (s.size - 3) := by unfold cutE; rw [if_pos he]; rfl
    rw [he, e1] at HC
    by_cases p1 : passB s = true
    · rw [p1] at HP
      have e : ofB s = (false, false, ⟨#[]⟩, ⟨#[]⟩) := by unfold ofB; rw [if_pos (.inr p1)]
      rw [e]
      exact of_p s _ w HC HP
    · have p1 := Bool.eq_false_iff.2 p1
      rw [p1] at HP
      have e : ofB s = (true, endsB (s.extract 0 (s.size - 3)) testE, tagsB (cutB 95 (restB (s.extract 0 (s.size - 3))))) := by
        unfold ofB
        rw [if_neg]
        rintro (h | h)
        · rw [he] at h; cases h
        · rw [p1] at h; cases h
      rw [e]
      have hqs := ex_size s 3
      generalize s.extract 0 (s.size - 3) = q at *
      have HT : ∀ w1, Calls Tryz.prog 28 #[.string q, .string ⟨#[95, 116, 101, 115, 116]⟩] w1 fun e w' => e = .returned (.tuple #[.string (cutE q testE), .bool (endsB q testE)]) ∧ w1 = w' := fun w1 => cutSuf_any q testE w1 (by omega)
      have e2 : cutE q testE = restB q := rfl
      have hrs : (restB q).size ≤ 1073741824 := by
        unfold restB
        split
        · have := ex_size q 5; omega
        · omega
      rw [e2] at HT
      generalize restB q = r at *
      generalize endsB q testE = T at *
      have h0 : 3 < w.heap.size := by
        have := World.block_lt_of_cell? w _ hm
        simpa using this
      have HS : ∀ w1, Below w.heap.size w w1 → Calls Tryz.prog 30 #[.string r, .string ⟨#[95]⟩] w1 fun e w' => e = .returned (.slice (some ⟨w1.heap.size, 0, none⟩) ((cutB 95 r).length - 1 + 1) ((cutB 95 r).length - 1 + 1)) ∧ w' = w1.alloc (.cells ((cutB 95 r).map Value.string).toArray 9) :=
        fun w1 hB => split_any r m w1 hrs ((hB.cell (p := ⟨3, 0, none⟩) h0).trans hm)
      have hlen := cnt_len (cutB 95 r)
      rw [cutB_cnt] at hlen
      have hpos := cutB_ne 95 r
      rw [tagsB_eq]
      generalize cutB 95 r = L at *
      have hz := arr_at L (L.length - 1) (by omega)
      have hy := fun h => arr_at L (L.length - 2) h
      generalize hA : (L.map Value.string).toArray = arr at *
      generalize L.length = n at *
      obtain ⟨k, rfl⟩ : ∃ k, n = k + 1 := ⟨n - 1, by omega⟩
      have ek : k + 1 - 1 = k := by omega
      rw [ek] at HS hz ⊢
      have HY := sys_any (L.getD (k + 1 - 2) ByteArray.empty)
      have HZ := sys_any (L.getD k ByteArray.empty)
      have HQ := proc_any (L.getD k ByteArray.empty)
      have hsp := sys_not_proc (L.getD k ByteArray.empty)
      generalize L.getD (k + 1 - 2) ByteArray.empty = y at *
      generalize L.getD k ByteArray.empty = z at *
      generalize inB sysL y = a at *
      generalize inB procL z = b at *
      generalize inB sysL z = c at *
      have hk2 : k ≤ 1073741825 := by omega
      clear hlen
      by_cases k0 : k = 0
      · subst k0
        rw [show tagsQ (0 + 1) a b c y z = (⟨#[]⟩, ⟨#[]⟩) by simp [tagsQ]]
        exact of_n0 s q r T arr w HC HP HT HS
      have hk1 : 1 ≤ k := by omega
      cases c with
      | true =>
        have hb : b = false := hsp rfl
        subst hb
        rw [show tagsQ (k + 1) a false true y z = (z, ⟨#[]⟩) by simp [tagsQ, hk1]]
        exact of_c s q r z T arr k w HC HP HT HS hz hk1 hk2 HZ
      | false =>
        cases b with
        | false =>
          rw [show tagsQ (k + 1) a false false y z = (⟨#[]⟩, ⟨#[]⟩) by simp [tagsQ]]
          exact of_z1 s q r z T arr k w HC HP HT HS hz hk1 hk2 HZ HQ
        | true =>
          by_cases k1 : k = 1
          · subst k1
            rw [show tagsQ (1 + 1) a true false y z = (⟨#[]⟩, z) by simp [tagsQ]]
            exact of_one s q r z T arr w HC HP HT HS hz HZ HQ
          · have hk : 2 ≤ k := by omega
            have hy1 := hy (by omega)
            have hy2 : arr[1 + (k - 2)]? = some (.string y) := by rw [← hy1]; congr 1; omega
            have hy1 : arr[k - 1]? = some (.string y) := by rw [← hy1]; congr 1
            cases a with
            | true =>
              rw [show tagsQ (k + 1) true true false y z = (y, z) by simp [tagsQ, hk]]
              exact of_two1 s q r z y T arr k w HC HP HT HS hz hk1 hk2 hk hy1 hy2 HZ HQ HY
            | false =>
              rw [show tagsQ (k + 1) false true false y z = (⟨#[]⟩, z) by simp [tagsQ, hk1]]
              exact of_two0 s q r z y T arr k w HC HP HT HS hz hk1 hk2 hk hy1 hy2 HZ HQ HY
  · have he := Bool.eq_false_iff.2 he
    rw [he] at HC
    have e : ofB s = (false, false, ⟨#[]⟩, ⟨#[]⟩) := by unfold ofB; rw [if_pos (.inl he)]
    rw [e]
    exact of_e s _ w HC
end Go.Proofs.YtpibehfmbmincaaGreatDoor
