/- Walks: the document's Line, Lines. -/
import Derived.Test.YtfkmijdpcenieaaDoorRd
namespace Go.Proofs.YtfkmijdpcenieaaDoor
set_option linter.unusedVariables false
open Go.ChangeShapes Go.WideShapes Go.ChangeAt Go.RowKit

theorem valO_wrap (o : ByteArray) : valO o = wrapB andS (cutB 44 o) := by
  unfold valO
  rw [show (cutB 44 o).map idB = cutB 44 o from List.map_id' _]
theorem valL_wrap (s : ByteArray) : valL s = wrapB orS ((wordsB s).map valO) := rfl

theorem maps_take {val : ByteArray → ByteArray} {ss : List ByteArray} {k : Nat} (hk : k < ss.length) : (ss.take (k + 1)).map val = (ss.take k).map val ++ [val (ss.getD k ByteArray.empty)] := by
  rw [List.take_succ_eq_append_getElem hk, List.map_append]
  simp only [List.getD_eq_getElem?_getD, List.getElem?_eq_getElem hk, Option.getD_some, List.map_cons, List.map_nil]
set_option maxRecDepth 100000 in
set_option maxHeartbeats 2000000 in
theorem rline_any (s : ByteArray) (w : World) (hs : s.size ≤ 65536) (h0 : 0 < (wordsB s).length) :
    Calls Tryd.prog 14 #[.string s] w fun e w' => e = .returned (.string (valL s)) ∧ Below w.heap.size w w' := by
  have HX := Lib.hid (rwords_any s w (by omega))
  have hxl := (sums_words s).1
  have hxn := (sums_words s).2
  have hxm := sums_mem (wordsB s)
  have hxo := sums_map valO 5 7 valO_size (wordsB s)
  rw [valL_wrap]
  obtain ⟨X, hXe⟩ : ∃ X, X = wordsB s := ⟨_, rfl⟩
  rw [← hXe] at HX hxl hxn hxm hxo h0 ⊢
  have HE := Lib.hid (fun (x : ByteArray) (hx : x ∈ X) w1 => rcut_any x 44 w1 (by have := hxm x hx; omega))
  rw [show ((44 : UInt8).toNat : Int) = 44 from rfl] at HE
  have HZ := Lib.hid (fun (x : ByteArray) (hx : x ∈ X) => hxm x hx)
  obtain ⟨Z, hZ⟩ : ∃ Z, Z = X.map valO := ⟨_, rfl⟩
  rw [← hZ] at hxo ⊢
  obtain ⟨n, hn⟩ : ∃ n, n = X.length := ⟨_, rfl⟩
  rw [← hn] at HX hxn h0 hxo
  have hZn : Z.length = n := by rw [hZ, List.length_map, hn]
  have hZ2 := hZn
  have HZZ := Lib.hid hZ
  have HV := Lib.hid (fun v w1 (hv : Strs w1 v Z) => wrap_any v Z orS w1 hv (by omega) (by rw [orS_size]; omega) (by omega) (by rw [orS_size]; omega))
  have Hn := Lib.hid hn
  clear hxm hXe hn hxo hZ
  obtain ⟨F, hF⟩ : ∃ F, F = wrapB orS Z := ⟨_, rfl⟩
  rw [← hF] at HV ⊢
  clear hF
  go_enter Tryd.func14, Tryd.ntmps14
  go_wp2_with fail
  refine HX.out.mono ?_
  rintro e w1 ⟨v1, rfl, hown1, hB1⟩
  rw [Hn.out] at hown1
  obtain ⟨g1, cap1, rfl, hg1b, hg1l, hg1c, hg1m, hcl1⟩ := row_cells hown1 (by have := Hn.out; omega)
  rw [← Hn.out] at hg1c hcl1 ⊢
  have HCL := Lib.hid (fun w2 (h2 : Below w1.heap.size w1 w2) j (hj : j < n) => (h2.cell (p := ⟨g1, j, none⟩) hg1l).trans (hcl1 j hj))
  have HB1 := Lib.hid hB1
  have hB1s := hB1.size
  clear hown1 hcl1 hB1 HX
  go_wp2_with fail
  go_loopg [3, 5, 9] n (fun g ov _ iv wr => ∃ i : Nat, i + g = n ∧ iv = .int .i64 i ∧ wr.ownsRow w1.heap.size 9 1 ov ((X.take i).map valO).length (((X.take i).map valO).map Value.string) ∧ Below w1.heap.size w1 wr)
  case atStart => exact ⟨0, by omega, rfl, World.ownsRow_nil _ _ _ _, Below.refl _ _⟩
  case round =>
    obtain ⟨i, hig, rfl, hown, hB⟩ := hrel
    by_cases hlt : i < n
    · have hltI : (i : Int) < (n : Int) := by omega
      have hkl : i < X.length := by have := Hn.out; omega
      have hc := HCL.out wr hB i hlt
      have hgr : g1 < wr.heap.size := Nat.lt_of_lt_of_le hg1l hB.size
      have hcall := HE.out _ (getD_mem hkl) wr
      have hxz := HZ.out _ (getD_mem hkl)
      have hyl := sums_cutB 44 (X.getD i ByteArray.empty)
      have hyp := cutB_ne 44 (X.getD i ByteArray.empty)
      have Hmt := Lib.hid (maps_take (val := valO) hkl)
      have Hval := Lib.hid (valO_wrap (X.getD i ByteArray.empty))
      obtain ⟨x, hx⟩ : ∃ x, x = X.getD i ByteArray.empty := ⟨_, rfl⟩
      rw [← hx] at hc hcall hxz hyl hyp Hmt Hval
      obtain ⟨Y, hY⟩ : ∃ Y, Y = cutB 44 x := ⟨_, rfl⟩
      rw [← hY] at hcall hyl hyp Hval
      have HW := Lib.hid (fun v w1 (hv : Strs w1 v Y) => wrap_any v Y andS w1 hv (by omega) (by rw [andS_size]; omega) (by omega) (by rw [andS_size]; omega))
      rw [← Hval.out] at HW
      obtain ⟨y, hy⟩ : ∃ y, y = valO x := ⟨_, rfl⟩
      rw [← hy] at HW Hmt
      have Hcall := Lib.hid hcall
      have hBs := hB.size
      have Hown := Lib.hid hown
      clear hcall hx hY hy hyl hyp Hval hown
      go_wp2_with fail
      refine Hcall.out.mono ?_
      rintro e w2 ⟨v2, rfl, hown2, hB2⟩
      have Hv2 := Lib.hid (Strs.ofRow hown2)
      have HA2 := Lib.hid (ownsRow_below Hown.out hB2)
      have hb2 := hB.trans (hB2.mono hBs)
      have hb2s := hb2.size
      clear hown2 hB2
      go_wp2_with fail
      refine (HW.out _ _ Hv2.out).mono ?_
      rintro e w2' ⟨rfl, rfl⟩
      have hown2 := HA2.out
      have hlen2 : ((X.take i).map valO).length ≤ 65536 := by simp; omega
      go_wp2_with (at_builtin; go_must (refine wpList_append_text rfl (.tmp 13) (.tmp 17) rfl w1.heap.size _ ((X.take i).map valO) rfl (hown2.alloc _) ⟨w2.heap.size, 0, none⟩ 1 y rfl (one_new _ _ _) (by omega) (by simp; omega) ?_); intro v3 w3 hown3 hgrow3 hwh3; have hb3 := (hb2.alloc hb2s _).grown hgrow3 (by simp; omega) (fun k hk => (hown2.lt k hk).1); clear hgrow3 hwh3 hown2 hB)
      go_roundg (gk - 1)
      case measure => omega
      case rel => exact ⟨i + 1, by omega, by go_num, by
        have e : (X.take (i + 1)).map valO = (X.take i).map valO ++ [y] := by
          exact Hmt.out
        rw [e]; exact hown3, hb3⟩
    · obtain rfl : i = n := by omega
      have hnI : ¬ (i : Int) < (i : Int) := by omega
      have htk : X.take i = X := by rw [Hn.out, List.take_length]
      rw [htk, ← HZZ.out] at hown
      have hv := Strs.ofRow hown
      have HB2 := Lib.hid (HB1.out.trans (hB.mono hB1s))
      clear hB htk hown
      go_wp2_with fail
      refine (HV.out _ _ hv).mono ?_
      rintro e w5 ⟨rfl, rfl⟩
      go_wp2_with fail
      go_ret
      exact ⟨rfl, HB2.out⟩
end Go.Proofs.YtfkmijdpcenieaaDoor
