/- Walks: the laws SuffixKnows and SuffixOf. -/
import Derived.Test.YtlgmnhjdnmjpgaaDoorWj
namespace Go.Proofs.YtlgmnhjdnmjpgaaDoor
set_option linter.unusedVariables false
open Go.ChangeShapes Go.WideShapes Go.ChangeAt Go.RowKit

set_option maxHeartbeats 1000000 in
theorem knows_walk (s : ByteArray) (m : Int) (w : World) (hs : s.size ≤ 140737488351232) (hm : w.cell? ⟨0, 0, none⟩ = some (.int .i64 m)) :
    Calls Tryd.prog 3 #[.string s] w (LawEnd w) := by
  have H7 := Lib.hid (alive_any m w hm)
  by_cases hle : s.size ≤ 1024
  · have hleI : (s.size : Int) ≤ 1024 := by omega
    have H8 := Lib.hid (fun w1 => sys_any s w1)
    have H9 := Lib.hid (fun w1 => refSystem_any s w1)
    have H10 := Lib.hid (fun w1 => proc_any s w1)
    have H11 := Lib.hid (fun w1 => refProcessor_any s w1)
    have H12 := Lib.hid (fun w1 => unix_any s w1)
    have H13 := Lib.hid (fun w1 => refUnix_any s w1)
    have H14 := Lib.hid (fun w1 => hidden_any s w1)
    have H15 := Lib.hid (fun w1 => refHidden_any s w1)
    generalize inB sysL s = a at *
    generalize inB procL s = b at *
    generalize inB unixL s = c at *
    generalize hidB s = d at *
    go_enter Tryd.func3, Tryd.ntmps3
    go_wp2_with fail
    refine H7.out.mono ?_
    rintro e w1 ⟨rfl, hB⟩
    go_wp2_with fail
    refine (H8.out _).mono ?_
    rintro e w2 ⟨rfl, rfl⟩
    go_wp2_with fail
    refine (H9.out _).mono ?_
    rintro e w2 ⟨rfl, hB2⟩
    replace hB := hB.trans (hB2.mono hB.size)
    clear hB2
    go_wp2_with fail
    refine (H10.out _).mono ?_
    rintro e w3 ⟨rfl, rfl⟩
    go_wp2_with fail
    refine (H11.out _).mono ?_
    rintro e w3 ⟨rfl, hB2⟩
    replace hB := hB.trans (hB2.mono hB.size)
    clear hB2
    go_wp2_with fail
    refine (H12.out _).mono ?_
    rintro e w4 ⟨rfl, rfl⟩
    go_wp2_with fail
    refine (H13.out _).mono ?_
    rintro e w4 ⟨rfl, hB2⟩
    replace hB := hB.trans (hB2.mono hB.size)
    clear hB2
    go_wp2_with fail
    refine (H14.out _).mono ?_
    rintro e w5 ⟨rfl, hB2⟩
    replace hB := hB.trans (hB2.mono hB.size)
    clear hB2
    go_wp2_with fail
    refine (H15.out _).mono ?_
    rintro e w6 ⟨rfl, hB2⟩
    replace hB := hB.trans (hB2.mono hB.size)
    clear hB2
    go_wp2_with fail
    go_ret
    exact ⟨rfl, hB⟩
  · have hleI : ¬ (s.size : Int) ≤ 1024 := by omega
    go_enter Tryd.func3, Tryd.ntmps3
    go_wp2_with fail
    refine H7.out.mono ?_
    rintro e w1 ⟨rfl, hB⟩
    go_wp2_with fail
    go_ret
    exact ⟨rfl, hB⟩

set_option maxHeartbeats 1000000 in
theorem of_walk (s : ByteArray) (m : Int) (w : World) (hs : s.size ≤ 140737488351232) (hm : w.cell? ⟨0, 0, none⟩ = some (.int .i64 m)) :
    Calls Tryd.prog 4 #[.string s] w (LawEnd w) := by
  have H7 := Lib.hid (alive_any m w hm)
  have h0 : 0 < w.heap.size := by
    have := World.block_lt_of_cell? w _ hm
    simpa using this
  by_cases hle : s.size ≤ 1024
  · have hleI : (s.size : Int) ≤ 1024 := by omega
    have H16 := Lib.hid (fun w1 => refOf_any s w1 (by omega))
    have H17 := Lib.hid (fun (w1 : World) (hB : Below w.heap.size w w1) => of_any s m w1 (by omega) ((hB.cell (p := ⟨0, 0, none⟩) h0).trans hm))
    generalize ofB s = r at *
    obtain ⟨g, t, o, a⟩ := r
    go_enter Tryd.func4, Tryd.ntmps4
    go_wp2_with fail
    refine H7.out.mono ?_
    rintro e w1 ⟨rfl, hB⟩
    go_wp2_with fail
    refine (H16.out _).mono ?_
    rintro e w2 ⟨rfl, hB2⟩
    replace hB := hB.trans (hB2.mono hB.size)
    clear hB2
    unfold tup4
    go_wp2_with fail
    refine (H17.out _ hB).mono ?_
    rintro e w2 ⟨rfl, hB2⟩
    replace hB := hB.trans (hB2.mono hB.size)
    clear hB2
    unfold agg4
    go_wp2_with fail
    go_ret
    exact ⟨rfl, hB⟩
  · have hleI : ¬ (s.size : Int) ≤ 1024 := by omega
    go_enter Tryd.func4, Tryd.ntmps4
    go_wp2_with fail
    refine H7.out.mono ?_
    rintro e w1 ⟨rfl, hB⟩
    go_wp2_with fail
    go_ret
    exact ⟨rfl, hB⟩
end Go.Proofs.YtlgmnhjdnmjpgaaDoor
