/- Walks: a module's level. -/
import Derived.Test.YtkmachhfibcdlaaDoorCb
namespace Go.Proofs.YtkmachhfibcdlaaDoor
set_option linter.unusedVariables false
set_option linter.unusedSimpArgs false
open Go.ChangeShapes Go.WideShapes Go.ChangeAt Go.RowKit

theorem decN_some {y : ByteArray} {m : Int} (h : decN y = some m) : Lib.atoiAll y.data.toList = .ok m := by
  unfold decN at h
  split at h
  · rename_i v hv
    split at h
    · injection h with h; subst h; exact hv
    · cases h
  · cases h
/-- The level that parts tell; a word. -/
def levelX (X : List ByteArray) : Option Int :=
  if 2 ≤ X.length ∧ X.length ≤ 3 ∧ X.getD 0 ⟨#[]⟩ = ⟨#[49]⟩ ∧ (X.drop 1).all (fun y => (decN y).isSome) = true then decN (X.getD 1 ⟨#[]⟩) else none
def levelB (x : ByteArray) : Option Int := levelX (cutB 46 x)
/-- The level. -/
def releaseR (R : MR) (ws : List ByteArray) : Bool × MR :=
  if ws.length = 1 ∧ R.lev = false then
    match levelB (ws.getD 0 ⟨#[]⟩) with
    | some m => (true, { R with lvl := m, lev := true })
    | none => (false, R)
  else (false, R)
theorem cutB_le (c : UInt8) (s : ByteArray) (k : Nat) (h : k < (cutB c s).length) : (cutB c s)[k].size ≤ s.size := by
  have := cutB_each c s k h
  rwa [List.getD_eq_getElem?_getD, List.getElem?_eq_getElem h] at this
set_option maxHeartbeats 4000000 in
theorem release_any (b L : Nat) (R : MR) (p : Option Addr) (n cap : Nat) (ws : List ByteArray) (w : World) (hE : Env w) (h : RdM b L R w) (hW : Strs w (.slice p n cap) ws) (hs : ∀ x ∈ ws, x.size ≤ 1048576) :
    Calls Tryd.prog 26 #[.pointer (some ⟨b, 0, none⟩), .slice p n cap] w fun e w' => e = .returned (.bool (releaseR R ws).1) ∧ RdM b L (releaseR R ws).2 w' ∧ Kept b L w w' := by
  obtain ⟨rfl, hp⟩ := hW.cells
  by_cases h1 : ws.length = 1
  case neg =>
    have e1 : ((ws.length : Int) == 1) = false := beq_eq_false_iff_ne.2 (by omega)
    have e1n := ne_of_eqb e1
    have HR := Lib.hid (show releaseR R ws = (false, R) by unfold releaseR; rw [if_neg (fun k => h1 k.1)])
    have H := Lib.hid h
    clear h hW hp
    go_enter Tryd.func26, Tryd.ntmps26
    go_wp2_with fail
    go_ret
    rw [HR.out]
    exact ⟨rfl, H.out, Kept.refl _ _ _⟩
  obtain ⟨x, rfl⟩ := List.length_eq_one_iff.1 h1
  obtain ⟨hc1, hc2, g, off, rfl, hg, hcell⟩ := hp (by simp)
  have hc0 := hcell 0 (by simp)
  rw [Nat.add_zero, List.getElem_cons_zero] at hc0
  have hx : x.size ≤ 1048576 := hs x (by simp)
  have HP := Lib.hid (split_own 46 x w (by omega) hE.max)
  have HE := Lib.hid hE
  have HR := Lib.hid (show releaseR R [x] = if R.lev = false then (match levelB x with | some m => (true, { R with lvl := m, lev := true }) | none => (false, R)) else (false, R) by unfold releaseR; simp)
  have H := Lib.hid h
  obtain ⟨rv, hb, ho, hL⟩ := h.f
  have c4 := block_cell hb 4
  rw [show (mrA R.path R.lvl rv R.lev R.blk)[4]? = some (.bool R.lev) from rfl] at c4
  clear hcell hp hW h hb ho hL h1 hE
  simp only [List.length_singleton] at *
  cases hlev : R.lev with
  | true =>
    rw [hlev] at c4
    have hr := HR.out
    rw [if_neg (by rw [hlev]; exact Bool.noConfusion)] at hr
    have HR2 := Lib.hid hr
    clear hr HR hlev
    go_enter Tryd.func26, Tryd.ntmps26
    go_wp2_with fail
    go_ret
    rw [HR2.out]
    exact ⟨rfl, H.out, Kept.refl _ _ _⟩
  | false =>
  rw [hlev] at c4
  have hr := HR.out
  rw [if_pos hlev] at hr
  have HR2 := Lib.hid hr
  clear hr HR hlev
  have HX := Lib.hid (cutB_le 46 x)
  have hX0 := cutB_ne 46 x
  have hXm : (cutB 46 x).length ≤ 1048577 := by have := cutB_cnt 46 x; have := cnt_len (cutB 46 x); omega
  have HL := Lib.hid (show levelB x = levelX (cutB 46 x) from rfl)
  generalize cutB 46 x = X at *
  go_enter Tryd.func26, Tryd.ntmps26
  go_wp2_with fail
  refine HP.out.mono ?_
  rintro r w1 ⟨v, rfl, hown, hB⟩
  have hS : Strs w1 v X := Strs.ofRow hown
  obtain ⟨pv, cv, rfl⟩ := own_sliceS hown
  obtain ⟨_, hq⟩ := hS.cells
  obtain ⟨hv1, hv2, g1, off1, rfl, hg1, hX⟩ := hq hX0
  have H1 := Lib.hid (H.out.below hB)
  have HB := Lib.hid (H.out.of hB)
  have HE1 := Lib.hid (HE.out.below hB)
  clear hB hown hS hq c4 hc0
  by_cases h2 : 2 ≤ X.length
  case neg =>
    have h2I : (X.length : Int) < 2 := by omega
    have hn : levelB x = none := by rw [HL.out]; unfold levelX; rw [if_neg (fun k => h2 k.1)]
    rw [hn] at HR2
    clear hn
    go_wp2_with fail
    go_ret
    rw [HR2.out]
    exact ⟨rfl, H1.out, HB.out⟩
  have h2I : ¬ (X.length : Int) < 2 := by omega
  by_cases h3 : X.length ≤ 3
  case neg =>
    have h3I : (3 : Int) < (X.length : Int) := by omega
    have hn : levelB x = none := by rw [HL.out]; unfold levelX; rw [if_neg (fun k => h3 k.2.1)]
    rw [hn] at HR2
    clear hn
    go_wp2_with fail
    go_ret
    rw [HR2.out]
    exact ⟨rfl, H1.out, HB.out⟩
  have h3I : ¬ (3 : Int) < (X.length : Int) := by omega
  have hx0 := hX 0 (by omega)
  rw [Nat.add_zero] at hx0
  have k0 := str_lit (X[0]'hX0) #[49]
  have hg0 : X.getD 0 ⟨#[]⟩ = X[0]'hX0 := by rw [List.getD_eq_getElem?_getD, List.getElem?_eq_getElem hX0]; rfl
  by_cases h4 : X[0]'hX0 = ⟨#[49]⟩
  case neg =>
    rw [decide_eq_false h4] at k0
    have k0n := ne_of_eqb k0
    have hn : levelB x = none := by rw [HL.out]; unfold levelX; rw [if_neg (fun k => h4 (hg0 ▸ k.2.2.1))]
    rw [hn] at HR2
    clear hn h4 hg0 HL
    generalize X[0]'hX0 = x0 at *
    go_wp2_with fail
    go_ret
    rw [HR2.out]
    exact ⟨rfl, H1.out, HB.out⟩
  rw [decide_eq_true h4] at k0
  have k0n := ne_of_eqb k0
  have HL2 := Lib.hid (show levelB x = if (X.drop 1).all (fun y => (decN y).isSome) = true then decN (X.getD 1 ⟨#[]⟩) else none by
    rw [HL.out]
    unfold levelX
    by_cases hq : (X.drop 1).all (fun y => (decN y).isSome) = true
    · rw [if_pos ⟨h2, h3, hg0.trans h4, hq⟩, if_pos hq]
    · rw [if_neg (fun k => hq k.2.2.2), if_neg hq])
  clear HL hg0 h4
  generalize X[0]'hX0 = x0 at *
  have hca : 1 < cv := by omega
  have hcb : cv ≠ 1 := by omega
  have hcc : cv - 1 ≠ 0 := by omega
  have HXc := Lib.hid hX
  clear hX
  go_wp2_with fail
  go_loopg [7, 38] (X.length - 1) (fun g xv iv wr => ∃ i : Nat, i + g = X.length - 1 ∧ iv = .int .i64 i ∧ Hid (∀ j, j < i → ∀ y, X[j + 1]? = some y → (decN y).isSome = true) ∧ Below w1.heap.size w1 wr)
  case atStart => exact ⟨0, by omega, rfl, Lib.hid (fun j h => absurd h (Nat.not_lt_zero _)), Below.refl _ _⟩
  case round =>
    obtain ⟨i, hig, rfl, HA, hBr⟩ := hrel
    have HBr := Lib.hid hBr
    clear hBr
    by_cases hi : i < X.length - 1
    case neg =>
      have hiI : ¬ (i : Int) < ((X.length - 1 : Nat) : Int) := by omega
      have HA2 := Lib.hid (show (X.drop 1).all (fun y => (decN y).isSome) = true by
        rw [List.all_eq_true]
        intro y hy
        obtain ⟨j, hj⟩ := List.mem_iff_getElem?.1 hy
        rw [List.getElem?_drop, Nat.add_comm] at hj
        exact HA.out j (by have := (List.getElem?_eq_some_iff.1 hj).1; omega) y hj)
      have hX1 : X[1]? = some (X[1]'(by omega)) := List.getElem?_eq_getElem _
      have hc1 := (HBr.out.cell (p := ⟨g1, off1 + 1, none⟩) hg1).trans (HXc.out 1 (by omega))
      have hy1 := HX.out 1 (by omega)
      have HD := Lib.hid (show levelB x = decN (X[1]'(by omega)) by
        rw [HL2.out, if_pos HA2.out, List.getD_eq_getElem?_getD, hX1]; rfl)
      have HD2 := Lib.hid (HA.out 0 (by omega) _ hX1)
      clear hX1 HL2 HA2 HA HX
      generalize (X[1]'(by omega)) = y at *
      obtain ⟨m, hm2⟩ := Option.isSome_iff_exists.1 HD2.out
      have hat := decN_some hm2
      have hr := HR2.out
      rw [HD.out, hm2] at hr
      have HR3 := Lib.hid hr
      have HT := Lib.hid (atoi_any y wr (HE1.out.below HBr.out) (by omega))
      rw [hat] at HT
      dsimp only at HT
      have H2 := Lib.hid (H1.out.below HBr.out)
      have HB2 := Lib.hid (HB.out.trans (H1.out.of HBr.out))
      clear hr HR2 HD HD2 hat hm2 HBr HB H1
      go_wp2_with fail
      refine HT.out.mono ?_
      rintro r w2 ⟨⟨n2, u, rfl, rfl, rfl⟩, hB⟩
      have H3 := Lib.hid (H2.out.below hB)
      have HB3 := Lib.hid (HB2.out.trans (H2.out.of hB))
      obtain ⟨rv1, hb1, ho1, hL1⟩ := H3.out.f
      have d1 := block_cell hb1 1
      rw [show (mrA R.path R.lvl rv1 R.lev R.blk)[1]? = some (.int .i64 R.lvl) from rfl] at d1
      have e1 := block_free hb1 1
      have d4 := block_cell hb1 4
      rw [show (mrA R.path R.lvl rv1 R.lev R.blk)[4]? = some (.bool R.lev) from rfl] at d4
      have e4 := block_free hb1 4
      clear hB hb1 ho1 hL1 H2 HB2 HT hc1
      go_wp2_with fail
      go_ret
      rw [HR3.out]
      obtain ⟨h1, h2⟩ := H3.out.set (i := 1) (R' := { R with lvl := n2 }) (v := .int .i64 n2) rfl (fun _ => rfl)
      obtain ⟨h3, h4⟩ := h1.set (i := 4) (R' := { R with lvl := n2, lev := true }) (v := .bool true) rfl (fun _ => rfl)
      exact ⟨rfl, h3, HB3.out.trans (h2.trans h4)⟩
    have hiI : (i : Int) < ((X.length - 1 : Nat) : Int) := by omega
    have hc1 : wr.cell? ⟨g1, off1 + 1 + i, none⟩ = some (.string (X[i + 1]'(by omega))) := by
      rw [Nat.add_assoc, Nat.add_comm 1 i]
      exact (HBr.out.cell (p := ⟨g1, off1 + (i + 1), none⟩) hg1).trans (HXc.out (i + 1) (by omega))
    have hy1 := HX.out (i + 1) (by omega)
    have hXi : X[i + 1]? = some (X[i + 1]'(by omega)) := List.getElem?_eq_getElem _
    have HXi := Lib.hid hXi
    have HD := Lib.hid (decimal_any (X[i + 1]'(by omega)) wr (HE1.out.below HBr.out) (by omega))
    clear hXi
    generalize (X[i + 1]'(by omega)) = y at *
    obtain ⟨db, hdb⟩ : ∃ db, (decN y).isSome = db := ⟨_, rfl⟩
    rw [hdb] at HD
    have HY := Lib.hid hdb
    clear hdb
    go_wp2_with fail
    refine HD.out.mono ?_
    rintro r w2 ⟨rfl, hB⟩
    have HB2 := Lib.hid (HBr.out.trans (hB.mono HBr.out.size))
    have HB3 := Lib.hid (HB.out.trans (H1.out.of HB2.out))
    have H3 := Lib.hid (H1.out.below HB2.out)
    clear hB hc1
    cases db
    · have hn : levelB x = none := by
        rw [HL2.out, if_neg]
        intro hal
        rw [List.all_eq_true] at hal
        have := hal y (List.mem_of_getElem? (show (X.drop 1)[i]? = some y by rw [List.getElem?_drop, Nat.add_comm]; exact HXi.out))
        rw [HY.out] at this
        cases this
      rw [hn] at HR2
      clear hn
      go_wp2_with fail
      go_ret
      rw [HR2.out]
      exact ⟨rfl, H3.out, HB3.out⟩
    · go_wp2_with fail
      go_roundg (gk - 1)
      case measure => omega
      case rel =>
        refine ⟨i + 1, by omega, by go_num, Lib.hid (fun j hj z hz => ?_), HB2.out⟩
        by_cases he : j = i
        · subst he
          rw [HXi.out] at hz
          injection hz with hz
          rw [← hz]
          exact HY.out
        · exact HA.out j (by omega) z hz
end Go.Proofs.YtkmachhfibcdlaaDoor
