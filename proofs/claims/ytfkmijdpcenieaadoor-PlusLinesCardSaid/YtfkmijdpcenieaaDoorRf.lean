/- Walks: the document's Lines. -/
import Derived.Test.YtfkmijdpcenieaaDoorRe
namespace Go.Proofs.YtfkmijdpcenieaaDoor
set_option linter.unusedVariables false
open Go.ChangeShapes Go.WideShapes Go.ChangeAt Go.RowKit

theorem valLs_wrap (l : List ByteArray) : valLs l = wrapB andS (l.map valL) := rfl
theorem okL_some {x : ByteArray} (h : okL x = true) : 0 < (wordsB x).length := by
  unfold okL at h
  cases hw : wordsB x with
  | nil => rw [hw] at h; simp at h
  | cons a r => simp

set_option maxRecDepth 100000 in
set_option maxHeartbeats 2000000 in
theorem rlines_any (v : Value) (l : List ByteArray) (w : World) (hv : Strs w v l) (hs : sums l ≤ 65536) (hl : l.length ≤ 65537) :
    Calls Tryd.prog 12 #[v] w fun e w' => e = .returned (.tuple #[.string (if okLs l then valLs l else noneB), .bool (okLs l)]) ∧ Below w.heap.size w w' := by
  have hxm := sums_mem l
  have hxo := sums_map valL 16 2 valL_size l
  have HG := Lib.hid (fun (x : ByteArray) (hx : x ∈ l) w1 => good_any x w1 (by have := hxm x hx; omega))
  have HL := Lib.hid (fun (x : ByteArray) (hx : x ∈ l) (h : okL x = true) w1 => rline_any x w1 (by have := hxm x hx; omega) (okL_some h))
  have HZ := Lib.hid (fun (x : ByteArray) (hx : x ∈ l) => hxm x hx)
  rw [valLs_wrap]
  obtain ⟨Z, hZ⟩ : ∃ Z, Z = l.map valL := ⟨_, rfl⟩
  rw [← hZ] at hxo ⊢
  obtain ⟨B, hB⟩ : ∃ B, B = okLs l := ⟨_, rfl⟩
  rw [← hB]
  have HB := Lib.hid (hB.trans (show okLs l = (!l.isEmpty && l.all okL) from rfl))
  have hZn : Z.length = l.length := by rw [hZ, List.length_map]
  have HZZ := Lib.hid hZ
  clear hxm hZ hB
  rcases hv with ⟨⟨pz, cz, rfl⟩, rfl⟩ | ⟨b, off, cap, rfl, hcap, hmax, hb, hcell⟩
  · obtain rfl : B = false := HB.out
    go_enter Tryd.func12, Tryd.ntmps12
    go_wp2_with fail
    go_loopg [4, 6, 9] 0 (fun g ov _ iv wr => iv = .int .i64 0 ∧ ov = .slice none 0 0 ∧ wr = w)
    case atStart => exact ⟨rfl, rfl, rfl⟩
    case round =>
      obtain ⟨rfl, rfl, rfl⟩ := hrel
      go_wp2_with fail
      go_ret2
      exact ⟨rfl, Below.refl _ _⟩
  · obtain ⟨n, hn⟩ : ∃ n, n = l.length := ⟨_, rfl⟩
    rw [← hn] at hcap hcell hl hxo hZn ⊢
    by_cases h0 : 0 < n
    · have HC := Lib.hid (fun w1 (h1 : Below w.heap.size w w1) j (hj : j < n) => (h1.cell (p := ⟨b, off + j, none⟩) hb).trans (hcell j hj))
      have HV := Lib.hid (fun v w1 (hv : Strs w1 v Z) => wrap_any v Z andS w1 hv (by omega) (by rw [andS_size]; omega) (by omega) (by rw [andS_size]; omega))
      obtain ⟨F, hF⟩ : ∃ F, F = wrapB andS Z := ⟨_, rfl⟩
      rw [← hF] at HV ⊢
      have Hn := Lib.hid hn
      unfold maxLen at hmax
      clear hcell hn hxo hF
      go_enter Tryd.func12, Tryd.ntmps12
      go_wp2_with fail
      go_loopg [4, 6, 9] n (fun g ov _ iv wr => ∃ i : Nat, i + g = n ∧ iv = .int .i64 i ∧ (l.take i).all okL = true ∧ wr.ownsRow w.heap.size 9 1 ov ((l.take i).map valL).length (((l.take i).map valL).map Value.string) ∧ Below w.heap.size w wr)
      case atStart => exact ⟨0, by omega, rfl, rfl, World.ownsRow_nil _ _ _ _, Below.refl _ _⟩
      case round =>
        obtain ⟨i, hig, rfl, hall, hown, hB⟩ := hrel
        by_cases hlt : i < n
        · have hltI : (i : Int) < (n : Int) := by omega
          have hkl : i < l.length := by have := Hn.out; omega
          have hc := HC.out wr hB i hlt
          have hbr : b < wr.heap.size := Nat.lt_of_lt_of_le hb hB.size
          have hcall := HG.out _ (getD_mem hkl) wr
          have hxz := HZ.out _ (getD_mem hkl)
          have HL1 := Lib.hid (HL.out _ (getD_mem hkl))
          have Hmt := Lib.hid (maps_take (val := valL) hkl)
          have Hyes := Lib.hid (fun h => all_take (ok := okL) hall hkl h)
          have Hnot := Lib.hid (fun h => HB.out.trans (not_all (ok := okL) hkl h))
          obtain ⟨x, hx⟩ : ∃ x, x = l.getD i ByteArray.empty := ⟨_, rfl⟩
          rw [← hx] at hc hcall hxz HL1 Hmt Hyes Hnot
          obtain ⟨y, hy⟩ : ∃ y, y = valL x := ⟨_, rfl⟩
          rw [← hy] at HL1 Hmt
          have hBs := hB.size
          have Hown := Lib.hid hown
          clear hx hall hown hy
          cases hok : okL x with
          | true =>
            rw [hok] at hcall
            have Hcall := Lib.hid hcall
            have HL2 := Lib.hid (HL1.out hok)
            have Hall := Lib.hid (Hyes.out hok)
            clear hcall hok
            go_wp2_with fail
            refine Hcall.out.mono ?_
            rintro e w2 ⟨rfl, hB2⟩
            have hb2 := hB.trans (hB2.mono hBs)
            have hb2s := hb2.size
            have HA2 := Lib.hid (ownsRow_below Hown.out hB2)
            clear hB2
            go_wp2_with fail
            refine (HL2.out _).mono ?_
            rintro e w3 ⟨rfl, hB3⟩
            have hown2 := ownsRow_below HA2.out hB3
            have hb3 := hb2.trans (hB3.mono hb2s)
            have hb3s := hb3.size
            clear hB3
            have hlen2 : ((l.take i).map valL).length ≤ 65537 := by simp; omega
            go_wp2_with (at_builtin; go_must (refine wpList_append_text rfl (.tmp 16) (.tmp 19) rfl w.heap.size _ ((l.take i).map valL) rfl (hown2.alloc _) ⟨w3.heap.size, 0, none⟩ 1 y rfl (one_new _ _ _) (by omega) (by simp; omega) ?_); intro v4 w4 hown4 hgrow4 hwh4; have hb4 := (hb3.alloc hb3s _).grown hgrow4 (by simp; omega) (fun k hk => (hown2.lt k hk).1); clear hgrow4 hwh4 hown2 hB)
            go_roundg (gk - 1)
            case measure => omega
            case rel => exact ⟨i + 1, by omega, by go_num, Hall.out, by rw [Hmt.out]; exact hown4, hb4⟩
          | false =>
            rw [hok] at hcall
            have Hcall := Lib.hid hcall
            have hBf := Hnot.out hok
            subst hBf
            clear hcall hok
            go_wp2_with fail
            refine Hcall.out.mono ?_
            rintro e w2 ⟨rfl, hB2⟩
            have hb2 := hB.trans (hB2.mono hBs)
            clear hB2
            go_wp2_with fail
            go_ret2
            exact ⟨rfl, hb2⟩
        · obtain rfl : i = n := by omega
          have hnI : ¬ (i : Int) < (i : Int) := by omega
          have hne : ((i : Int) == 0) = false := by rw [beq_eq_false_iff_ne]; omega
          have htk : l.take i = l := by rw [Hn.out, List.take_length]
          rw [htk, ← HZZ.out, hZn] at hown
          rw [htk] at hall
          have hBt : B = true := by
            rw [HB.out, hall, Bool.and_true]
            have := Hn.out
            cases l with
            | nil => simp at this; omega
            | cons a r => rfl
          subst hBt
          rw [← hZn] at hown
          obtain ⟨g4, cap4, rfl, -, hg4, hg4c, hg4m, -⟩ := row_cells hown (by omega)
          have Hv := Lib.hid (Strs.ofRow hown)
          rw [hZn] at Hv ⊢
          clear htk hown hall
          go_wp2_with fail
          refine (HV.out _ _ Hv.out).mono ?_
          rintro e w5 ⟨rfl, rfl⟩
          go_wp2_with fail
          go_ret2
          exact ⟨rfl, hB⟩
    · obtain rfl : n = 0 := by omega
      obtain rfl : B = false := by
        rw [HB.out]
        cases l with
        | nil => rfl
        | cons a r => simp at hn
      go_enter Tryd.func12, Tryd.ntmps12
      go_wp2_with fail
      go_loopg [4, 6, 9] 0 (fun g ov _ iv wr => iv = .int .i64 0 ∧ ov = .slice none 0 0 ∧ wr = w)
      case atStart => exact ⟨rfl, rfl, rfl⟩
      case round =>
        obtain ⟨rfl, rfl, rfl⟩ := hrel
        go_wp2_with fail
        go_ret2
        exact ⟨rfl, Below.refl _ _⟩
end Go.Proofs.YtfkmijdpcenieaaDoor
