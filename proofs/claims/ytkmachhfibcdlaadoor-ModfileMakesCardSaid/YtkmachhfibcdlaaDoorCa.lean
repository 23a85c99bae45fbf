/- Walks: what a word of a go.mod can be. -/
import Derived.Test.YtkmachhfibcdlaaDoorRm
import Derived.Lib.AtoiAll
import Derived.WalkSmall
import Derived.Lib.AppendIntMem
import Derived.Lib.AtoiErrMem
import Derived.Lib.ItoaMem
namespace Go.Proofs.YtkmachhfibcdlaaDoor
set_option linter.unusedVariables false
set_option linter.unusedSimpArgs false
open Go.ChangeShapes Go.WideShapes Go.ChangeAt Go.RowKit

theorem var_lt {P : Program} {W : World} {n : String} {g : Nat} {cs : Array Value} (hg : P.globalNamed n = some g) (h : W.var? P n = some cs) : g < W.heap.size := by
  rcases Nat.lt_or_ge g W.heap.size with hlt | hge
  · exact hlt
  · exfalso
    unfold World.var? at h
    simp only [hg, Option.bind_some] at h
    rw [Array.getElem?_eq_none hge] at h
    cases h
/-- What the library's variables hold. -/
structure Env (w : World) : Prop where
  max : MaxAt w
  syn : ∃ te pe, w.cell? ⟨3, 0, none⟩ = some (.iface te pe)
  rng : ∃ te pe, w.cell? ⟨4, 0, none⟩ = some (.iface te pe)
  tab : Lib.TabIs Tryd.prog w "internal/strconv.uint64pow10" .u64 Lib.pow10Tab
theorem Env.below {w w' : World} (h : Env w) (hB : Below w.heap.size w w') : Env w' := by
  obtain ⟨h1, ⟨te, pe, h2⟩, ⟨te2, pe2, h3⟩, h4⟩ := h
  refine ⟨h1.below h1.1 hB, ⟨te, pe, (hB.cell (p := ⟨3, 0, none⟩) (World.block_lt_of_cell? w _ h2)).trans h2⟩, ⟨te2, pe2, (hB.cell (p := ⟨4, 0, none⟩) (World.block_lt_of_cell? w _ h3)).trans h3⟩, ?_⟩
  exact var?_below hB (g := 5) (by kernel_rfl) (var_lt (P := Tryd.prog) (by kernel_rfl) h4) h4
def wSet : ByteArray := ⟨#[34, 39, 96, 92, 40, 41, 44, 61, 62]⟩
def pathB (x : ByteArray) : Bool := !Lib.containsAny x.data.toList wSet.data.toList
def dirB (x : ByteArray) : Bool := decide (x = ⟨#[46]⟩) || decide (x = ⟨#[46, 46]⟩) || Lib.hasPrefix x.data.toList [46, 47] || Lib.hasPrefix x.data.toList [46, 46, 47]
/-- A number without noughts ahead, of four digits at most. -/
def decN (x : ByteArray) : Option Int := match Lib.atoiAll x.data.toList with
  | .ok v => if 0 ≤ v ∧ x.size ≤ 4 ∧ x = ⟨(Lib.itoa v).toArray⟩ then some v else none
  | _ => none
def blocksB (x : ByteArray) : Bool := decide (x = ⟨#[114, 101, 113, 117, 105, 114, 101]⟩) || decide (x = ⟨#[101, 120, 99, 108, 117, 100, 101]⟩) || decide (x = ⟨#[114, 101, 116, 114, 97, 99, 116]⟩) || decide (x = ⟨#[114, 101, 112, 108, 97, 99, 101]⟩)
theorem set_any (x : ByteArray) (w : World) (hx : x.size ≤ 1048576) : Calls Tryd.prog 45 #[.string x, .string wSet] w fun e w' => e = .returned (.bool (Lib.containsAny x.data.toList wSet.data.toList)) ∧ Below w.heap.size w w' :=
  any_of (idxG_of wSet (fun j b h => by
    have hall : ∀ b ∈ wSet.data.toList, b.toNat < 128 := by decide
    exact hall b (List.mem_of_getElem? h)) (by decide) (by decide)) x w hx
theorem path_any (x : ByteArray) (w : World) (hx : x.size ≤ 1048576) : Calls Tryd.prog 35 #[.string x] w fun e w' => e = .returned (.bool (pathB x)) ∧ Below w.heap.size w w' := by
  have HX := Lib.hid (fun w1 => set_any x w1 hx)
  unfold pathB
  unfold wSet at HX ⊢
  generalize Lib.containsAny x.data.toList (⟨#[34, 39, 96, 92, 40, 41, 44, 61, 62]⟩ : ByteArray).data.toList = b at *
  go_enter Tryd.func35, Tryd.ntmps35
  go_wp2_with fail
  refine (HX.out _).mono ?_
  rintro r w1 ⟨rfl, hB⟩
  have HB := Lib.hid hB
  clear hB
  go_wp2_with fail
  go_ret
  exact ⟨rfl, HB.out⟩
theorem blocks_any (x : ByteArray) (w : World) : Calls Tryd.prog 20 #[.string x] w fun e w' => e = .returned (.bool (blocksB x)) ∧ w = w' := by
  have k1 := str_lit x #[114, 101, 113, 117, 105, 114, 101]
  have k2 := str_lit x #[101, 120, 99, 108, 117, 100, 101]
  have k3 := str_lit x #[114, 101, 116, 114, 97, 99, 116]
  have k4 := str_lit x #[114, 101, 112, 108, 97, 99, 101]
  unfold blocksB
  generalize decide (x = ⟨#[114, 101, 113, 117, 105, 114, 101]⟩) = b1 at *
  generalize decide (x = ⟨#[101, 120, 99, 108, 117, 100, 101]⟩) = b2 at *
  generalize decide (x = ⟨#[114, 101, 116, 114, 97, 99, 116]⟩) = b3 at *
  generalize decide (x = ⟨#[114, 101, 112, 108, 97, 99, 101]⟩) = b4 at *
  cases b1
  · cases b2
    · cases b3
      · cases b4
        all_goals (go_enter Tryd.func20, Tryd.ntmps20; go_wp2_with fail; go_ret; exact ⟨rfl, rfl⟩)
      · go_enter Tryd.func20, Tryd.ntmps20; go_wp2_with fail; go_ret; exact ⟨rfl, rfl⟩
    · go_enter Tryd.func20, Tryd.ntmps20; go_wp2_with fail; go_ret; exact ⟨rfl, rfl⟩
  · go_enter Tryd.func20, Tryd.ntmps20; go_wp2_with fail; go_ret; exact ⟨rfl, rfl⟩
theorem dir_any (x : ByteArray) (w : World) : Calls Tryd.prog 39 #[.string x] w fun e w' => e = .returned (.bool (dirB x)) ∧ w = w' := by
  have k1 := str_lit x #[46]
  have k2 := str_lit x #[46, 46]
  have H3 := Lib.hid (fun w1 => Tryd.strings_HasPrefix x ⟨#[46, 47]⟩ w1)
  have H4 := Lib.hid (fun w1 => Tryd.strings_HasPrefix x ⟨#[46, 46, 47]⟩ w1)
  unfold dirB
  generalize decide (x = ⟨#[46]⟩) = b1 at *
  generalize decide (x = ⟨#[46, 46]⟩) = b2 at *
  have e3 : ({ data := #[46, 47] } : ByteArray).data.toList = [46, 47] := rfl
  have e4 : ({ data := #[46, 46, 47] } : ByteArray).data.toList = [46, 46, 47] := rfl
  rw [e3] at H3
  rw [e4] at H4
  clear e3 e4
  generalize Lib.hasPrefix x.data.toList [46, 47] = b3 at *
  generalize Lib.hasPrefix x.data.toList [46, 46, 47] = b4 at *
  cases b1
  · cases b2
    · go_enter Tryd.func39, Tryd.ntmps39
      go_wp2_with fail
      refine (H3.out _).mono ?_
      rintro r w1 ⟨rfl, rfl⟩
      cases b3
      · go_wp2_with fail
        refine (H4.out _).mono ?_
        rintro r w1 ⟨rfl, rfl⟩
        go_wp2_with fail
        go_ret
        exact ⟨rfl, rfl⟩
      · go_wp2_with fail
        go_ret
        exact ⟨rfl, rfl⟩
    · go_enter Tryd.func39, Tryd.ntmps39; go_wp2_with fail; go_ret; exact ⟨rfl, rfl⟩
  · go_enter Tryd.func39, Tryd.ntmps39; go_wp2_with fail; go_ret; exact ⟨rfl, rfl⟩
theorem atoi_in {l : List UInt8} {v : Int} (h : Lib.atoiAll l = .ok v) : -9223372036854775808 ≤ v ∧ v ≤ 9223372036854775807 := by
  unfold Lib.atoiAll at h
  split at h
  · cases h
  · simp only at h
    split at h
    · cases h
    · cases h
    · split at h
      · cases h
      · split at h
        · cases h
        · injection h with h
          subst h
          split <;> omega
set_option maxHeartbeats 2000000 in
/-- strconv.Atoi: the number, or some error beside some number. -/
theorem atoi_any (x : ByteArray) (w : World) (hE : Env w) (hx : x.size ≤ 1048576) : Calls Tryd.prog 37 #[.string x] w fun e w' =>
    (∃ n v, e = .returned (.tuple #[.int .i64 n, v]) ∧ (match Lib.atoiAll x.data.toList with | .ok m => n = m ∧ v = .nilIface | _ => ∃ p, v = .iface 80 p)) ∧ Below w.heap.size w w' := by
  cases h : Lib.atoiAll x.data.toList with
  | ok v =>
    refine (Tryd.strconv_Atoi_ok x (by omega) v h w).mono ?_
    rintro e w' ⟨rfl, hw⟩
    refine ⟨⟨_, _, rfl, rfl, rfl⟩, ?_⟩
    rcases hw with rfl | ⟨t, rfl⟩
    · exact Below.refl _ _
    · exact Lib.bytesWorld_below w 5 t
  | «syntax» =>
    obtain ⟨te, pe, hc⟩ := hE.syn
    refine (Tryd.strconv_Atoi_syntax x (by omega) h _ w hc (.inr ⟨te, pe, rfl⟩)).mono ?_
    rintro e w' ⟨N, rfl, _, _, hB⟩
    exact ⟨⟨_, _, rfl, _, rfl⟩, hB⟩
  | range =>
    obtain ⟨te, pe, hc⟩ := hE.rng
    refine (Tryd.strconv_Atoi_range x (by omega) h _ w hc (.inr ⟨te, pe, rfl⟩)).mono ?_
    rintro e w' ⟨N, rfl, _, _, hB⟩
    exact ⟨⟨_, _, rfl, _, rfl⟩, hB⟩
set_option maxHeartbeats 2000000 in
theorem decimal_any (x : ByteArray) (w : World) (hE : Env w) (hx : x.size ≤ 1048576) : Calls Tryd.prog 36 #[.string x] w fun e w' => e = .returned (.bool (decN x).isSome) ∧ Below w.heap.size w w' := by
  have HA := Lib.hid (atoi_any x w hE hx)
  have HE := Lib.hid hE
  clear hE
  unfold decN
  cases h : Lib.atoiAll x.data.toList with
  | ok v =>
    rw [h] at HA
    obtain ⟨hv1, hv2⟩ := atoi_in h
    dsimp only at HA ⊢
    have HI := Lib.hid (fun w1 (hb : Below w.heap.size w w1) => Tryd.strconv_Itoa v hv1 hv2 w1 (HE.out.below hb).tab)
    clear h
    by_cases h0 : 0 ≤ v
    · by_cases h4 : x.size ≤ 4
      · have h4I : (x.size : Int) ≤ 4 := by omega
        have he := str_eqb ⟨(Lib.itoa v).toArray⟩ x
        have hd : decide (x = ⟨(Lib.itoa v).toArray⟩) = decide ((⟨(Lib.itoa v).toArray⟩ : ByteArray) = x) := by rw [decide_eq_decide]; exact eq_comm
        have HR := Lib.hid (show (if 0 ≤ v ∧ x.size ≤ 4 ∧ x = ⟨(Lib.itoa v).toArray⟩ then some v else none).isSome = decide ((⟨(Lib.itoa v).toArray⟩ : ByteArray) = x) from by
          rw [← hd]
          by_cases hx2 : x = ⟨(Lib.itoa v).toArray⟩
          · rw [if_pos ⟨h0, h4, hx2⟩, decide_eq_true hx2]; rfl
          · rw [if_neg (fun k => hx2 k.2.2), decide_eq_false hx2]; rfl)
        rw [HR.out]
        generalize decide ((⟨(Lib.itoa v).toArray⟩ : ByteArray) = x) = bb at *
        generalize (⟨(Lib.itoa v).toArray⟩ : ByteArray) = y at *
        clear hd HR
        go_enter Tryd.func36, Tryd.ntmps36
        go_wp2_with fail
        refine HA.out.mono ?_
        rintro r w1 ⟨⟨n, u, rfl, rfl, rfl⟩, hB⟩
        have HB := Lib.hid hB
        clear hB
        go_wp2_with fail
        refine (HI.out _ HB.out).mono ?_
        rintro r w2 ⟨rfl, k, os, rfl⟩
        have HB2 := Lib.hid (HB.out.trans (Lib.below_grow w.heap.size w1 HB.out.size k os))
        go_wp2_with fail
        go_ret
        exact ⟨rfl, HB2.out⟩
      · have h4I : ¬ (x.size : Int) ≤ 4 := by omega
        rw [if_neg (fun k => h4 k.2.1)]
        go_enter Tryd.func36, Tryd.ntmps36
        go_wp2_with fail
        refine HA.out.mono ?_
        rintro r w1 ⟨⟨n, u, rfl, rfl, rfl⟩, hB⟩
        have HB := Lib.hid hB
        clear hB
        go_wp2_with fail
        go_ret
        exact ⟨rfl, HB.out⟩
    · rw [if_neg (fun k => h0 k.1)]
      go_enter Tryd.func36, Tryd.ntmps36
      go_wp2_with fail
      refine HA.out.mono ?_
      rintro r w1 ⟨⟨n, u, rfl, rfl, rfl⟩, hB⟩
      have HB := Lib.hid hB
      clear hB
      go_wp2_with fail
      go_ret
      exact ⟨rfl, HB.out⟩
  | «syntax» =>
    rw [h] at HA
    dsimp only at HA ⊢
    clear h
    go_enter Tryd.func36, Tryd.ntmps36
    go_wp2_with fail
    refine HA.out.mono ?_
    rintro r w1 ⟨⟨n, u, rfl, p, rfl⟩, hB⟩
    have HB := Lib.hid hB
    clear hB
    go_wp2_with fail
    go_ret
    exact ⟨rfl, HB.out⟩
  | range =>
    rw [h] at HA
    dsimp only at HA ⊢
    clear h
    go_enter Tryd.func36, Tryd.ntmps36
    go_wp2_with fail
    refine HA.out.mono ?_
    rintro r w1 ⟨⟨n, u, rfl, p, rfl⟩, hB⟩
    have HB := Lib.hid hB
    clear hB
    go_wp2_with fail
    go_ret
    exact ⟨rfl, HB.out⟩
end Go.Proofs.YtkmachhfibcdlaaDoor
