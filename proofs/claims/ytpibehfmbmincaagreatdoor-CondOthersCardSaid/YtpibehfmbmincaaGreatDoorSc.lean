/- Walks: alive, great, Parse, the document's Parse. -/
import Derived.Test.YtpibehfmbmincaaGreatDoorRy
import Derived.Test.YtpibehfmbmincaaGreatDoorWh
namespace Go.Proofs.YtpibehfmbmincaaGreatDoor
set_option linter.unusedVariables false
open Go.ChangeShapes Go.WideShapes Go.ChangeAt Go.RowKit

/-! ### Parse -/
def isPl (t : ByteArray) : Bool := Lib.hasPrefix t.data.toList [43]
def trimP (t : ByteArray) : ByteArray := mkB (Lib.trimPrefix t.data.toList [43])
def plusL (s : ByteArray) : List ByteArray := (cutB 10 s).map trimP
def parseP (s : ByteArray) : List ByteArray × Int := if isPl s then (if okLs (plusL s) then parseR (valLs (plusL s)) else ([], 4)) else parseR s
theorem trimP_size (t : ByteArray) : (trimP t).size ≤ t.size := by
  unfold trimP
  rw [mkB_size]
  have : (Lib.trimPrefix t.data.toList [43]).length ≤ t.data.toList.length := by unfold Lib.trimPrefix; split <;> simp
  rw [ba_len] at this
  exact this
theorem plusL_sums (s : ByteArray) : sums (plusL s) ≤ s.size ∧ (plusL s).length ≤ s.size + 1 := by
  have h1 := sums_map trimP 1 0 (fun x => by have := trimP_size x; omega) (cutB 10 s)
  have h2 := sums_cutB 10 s
  have h3 := cutB_ne 10 s
  unfold plusL
  rw [List.length_map]
  omega
theorem isPl_first {t : ByteArray} (h : isPl t = true) : ∃ r, t.data.toList = 43 :: r := by
  unfold isPl Lib.hasPrefix at h
  cases hl : t.data.toList with
  | nil => rw [hl] at h; simp at h
  | cons a r =>
    rw [hl] at h
    simp only [List.isPrefixOf, Bool.and_true, beq_iff_eq] at h
    subst h
    exact ⟨r, rfl⟩
theorem isPl_yes {t : ByteArray} (h : isPl t = true) : ∃ h0 : 0 < t.size, t[0]'h0 = 43 ∧ trimP t = t.extract 1 t.size := by
  obtain ⟨r, hr⟩ := isPl_first h
  have hz : 0 < t.size := by rw [← ba_len, hr]; simp
  have h3 := first_is t hz
  rw [hr] at h3
  refine ⟨hz, (List.cons.inj h3).1.symm, ?_⟩
  unfold trimP Lib.trimPrefix
  apply ba_ext
  rw [mkB_toList, Lib.extract_data, hr]
  have hp : Lib.hasPrefix (43 :: r) [43] = true := by simp [Lib.hasPrefix, List.isPrefixOf]
  rw [hp]
  have hs : t.size = r.length + 1 := by rw [← ba_len, hr]; rfl
  simp [hs]
theorem isPl_no {t : ByteArray} (h : isPl t = false) : trimP t = t ∧ ∀ h0 : 0 < t.size, ¬ t[0]'h0 = 43 := by
  refine ⟨?_, fun h0 e => ?_⟩
  · unfold trimP Lib.trimPrefix
    have h' : Lib.hasPrefix t.data.toList [43] = false := h
    rw [h']
    exact ba_ext (by rw [mkB_toList]; rfl)
  · have h3 := first_is t h0
    rw [e] at h3
    unfold isPl Lib.hasPrefix at h
    rw [h3] at h
    simp [List.isPrefixOf] at h
theorem isEmpty_no {s : ByteArray} (h : 0 < s.size) : s.toList.isEmpty = false := by
  rw [Lib.toList_data]
  have := ba_len s
  cases e : s.data.toList with
  | nil => rw [e] at this; simp at this; omega
  | cons a r => rfl
theorem trims_take {ss : List ByteArray} {k : Nat} (hk : k < ss.length) : (ss.take (k + 1)).map trimP = (ss.take k).map trimP ++ [trimP (ss.getD k ByteArray.empty)] := maps_take hk

set_option maxRecDepth 100000 in
set_option maxHeartbeats 2000000 in
theorem parse14_any (s : ByteArray) (w : World) (hs : s.size ≤ 65535) (hm : MaxAt w) : Calls Tryz.prog 33 #[.string s] w (Parsed (parseP s) w) := by
  cases hp : isPl s with
  | false =>
    have HP := Lib.hid (fun w1 => parse_any s w1 (by omega))
    unfold Parsed at HP
    rw [show parseP s = parseR s by unfold parseP; rw [hp]; rfl]
    obtain ⟨⟨l, c⟩, hr⟩ : ∃ r, parseR s = r := ⟨_, rfl⟩
    rw [hr] at HP ⊢
    simp only at HP
    have HS := Lib.hid (fun w1 => Tryz.strings_HasPrefix s ⟨#[43]⟩ w1)
    rw [show Lib.hasPrefix s.data.toList (⟨#[43]⟩ : ByteArray).data.toList = false from hp] at HS
    clear hp hr hm
    go_enter Tryz.func33, Tryz.ntmps33
    go_wp2_with fail
    refine (HS.out _).mono ?_
    rintro e w0 ⟨rfl, rfl⟩
    go_wp2_with fail
    refine (HP.out _).mono ?_
    rintro e w1 ⟨v, rfl, hv, hB⟩
    have Hv := Lib.hid hv
    clear hv
    go_wp2_with fail
    go_ret2
    exact ⟨_, rfl, Hv.out, hB⟩
  | true =>
    have hX := fun w1 => split_own 10 s w1 (by omega)
    have HX := Lib.hid hX
    clear hX
    obtain ⟨hps, hpl⟩ := plusL_sums s
    have HL := Lib.hid (fun v w1 (h1 : MaxAt w1) (hv : Strs w1 v (plusL s)) => lines_any v (plusL s) w1 hv (by omega) (by omega) h1)
    have hvs := valLs_size (plusL s)
    have HQ := Lib.hid (fun w1 => parse_any (valLs (plusL s)) w1 (by omega))
    unfold Parsed at HQ
    rw [show parseP s = (if okLs (plusL s) then parseR (valLs (plusL s)) else ([], 4)) by unfold parseP; rw [hp]; rfl]
    obtain ⟨⟨q, c⟩, hr⟩ : ∃ r, parseR (valLs (plusL s)) = r := ⟨_, rfl⟩
    rw [hr] at HQ ⊢
    simp only at HQ
    have hxl := sums_cutB 10 s
    have hxm := sums_mem (cutB 10 s)
    have hpe : plusL s = (cutB 10 s).map trimP := rfl
    obtain ⟨X, hXe⟩ : ∃ X, X = cutB 10 s := ⟨_, rfl⟩
    rw [← hXe] at HX hxl hxm hpe
    obtain ⟨Z, hZe⟩ : ∃ Z, Z = plusL s := ⟨_, rfl⟩
    rw [← hZe] at HL HQ hpe ⊢
    obtain ⟨V, hVe⟩ : ∃ V, V = valLs Z := ⟨_, rfl⟩
    rw [← hVe] at HL HQ
    have HZ := Lib.hid hpe
    obtain ⟨R, hR⟩ : ∃ R, R = (if okLs Z then (q, c) else ([], (4 : Int))) := ⟨_, rfl⟩
    rw [← hR]
    have HR := Lib.hid hR
    clear hR
    have HM := Lib.hid (fun (x : ByteArray) (hx : x ∈ X) => hxm x hx)
    obtain ⟨n, hn⟩ : ∃ n, n = X.length := ⟨_, rfl⟩
    rw [← hn] at HX hxl
    have hn0 : 0 < n := by
      have := cutB_ne 10 s
      rw [← hXe, ← hn] at this
      omega
    have Hn := Lib.hid hn
    have HS := Lib.hid (fun w1 => Tryz.strings_HasPrefix s ⟨#[43]⟩ w1)
    rw [show Lib.hasPrefix s.data.toList (⟨#[43]⟩ : ByteArray).data.toList = true from hp] at HS
    have HT := Lib.hid (fun (t : ByteArray) w1 => Tryz.strings_TrimPrefix t ⟨#[43]⟩ w1)
    have Hm := Lib.hid hm
    clear hp hr hXe hZe hVe hpe hxm hn hps hpl hvs hm
    go_enter Tryz.func33, Tryz.ntmps33
    go_wp2_with fail
    refine (HS.out _).mono ?_
    rintro e w0 ⟨rfl, rfl⟩
    go_wp2_with fail
    refine (HX.out _ Hm.out).mono ?_
    rintro e w1 ⟨v1, rfl, hown1, hB1⟩
    rw [Hn.out] at hown1
    obtain ⟨g1, cap1, rfl, hg1b, hg1l, hg1c, hg1m, hcl1⟩ := row_cells hown1 (by have := Hn.out; omega)
    rw [← Hn.out] at hg1c hcl1 ⊢
    have HCL := Lib.hid (fun w2 (h2 : Below w1.heap.size w1 w2) j (hj : j < n) => (h2.cell (p := ⟨g1, j, none⟩) hg1l).trans (hcl1 j hj))
    have HB1 := Lib.hid hB1
    have hB1s := hB1.size
    clear hown1 hcl1 hB1 HX
    go_wp2_with fail
    go_loopg [4, 6, 19] n (fun g ov _ iv wr => ∃ i : Nat, i + g = n ∧ iv = .int .i64 i ∧ wr.ownsRow w1.heap.size 9 1 ov ((X.take i).map trimP).length (((X.take i).map trimP).map Value.string) ∧ Below w1.heap.size w1 wr)
    case atStart => exact ⟨0, by omega, rfl, World.ownsRow_nil _ _ _ _, Below.refl _ _⟩
    case round =>
      obtain ⟨i, hig, rfl, hown, hB⟩ := hrel
      have hBs := hB.size
      by_cases hlt : i < n
      · have hltI : (i : Int) < (n : Int) := by omega
        have hkl : i < X.length := by have := Hn.out; omega
        have hc1 := HCL.out wr hB i hlt
        have hgr : g1 < wr.heap.size := Nat.lt_of_lt_of_le hg1l hB.size
        have hxz := HM.out _ (getD_mem hkl)
        have Hmt := Lib.hid (trims_take hkl)
        have hlen2 : ((X.take i).map trimP).length ≤ 65537 := by simp; omega
        obtain ⟨x, hx⟩ : ∃ x, x = X.getD i ByteArray.empty := ⟨_, rfl⟩
        rw [← hx] at hc1 hxz Hmt
        have htz := trimP_size x
        clear hx
        obtain ⟨y, hy⟩ : ∃ y, y = trimP x := ⟨_, rfl⟩
        rw [← hy] at Hmt htz
        have Hy := Lib.hid (show (⟨(Lib.trimPrefix x.data.toList (⟨#[43]⟩ : ByteArray).data.toList).toArray⟩ : ByteArray) = y from hy.symm)
        clear hy
        go_wp2_with fail
        refine (HT.out _ _).mono ?_
        rintro e w2 ⟨rfl, rfl⟩
        rw [Hy.out]
        go_wp2_with (at_builtin; go_must (refine wpList_append_text rfl (.tmp 23) (.tmp 26) rfl w1.heap.size _ ((X.take i).map trimP) rfl (hown.alloc _) ⟨w2.heap.size, 0, none⟩ 1 y rfl (one_new _ _ _) (by omega) (by simp; omega) ?_); intro v3 w3 hown3 hgrow3 hwh3; have hb3 := (hB.alloc hBs _).grown hgrow3 (by simp; omega) (fun k hk => (hown.lt k hk).1); clear hgrow3 hwh3 hown hB)
        go_roundg (gk - 1)
        case measure => omega
        case rel => exact ⟨i + 1, by omega, by go_num, by rw [Hmt.out]; exact hown3, hb3⟩
      · obtain rfl : i = n := by omega
        have hnI : ¬ (i : Int) < (i : Int) := by omega
        rw [show X.take i = X by rw [Hn.out, List.take_length], ← HZ.out] at hown
        have Hv := Lib.hid (Strs.ofRow hown)
        have HB2 := Lib.hid (HB1.out.trans (hB.mono hB1s))
        have Hmx := Lib.hid (Hm.out.below Hm.out.1 HB2.out)
        have hbs2 := HB2.out.size
        clear hown hB
        go_wp2_with fail
        refine (HL.out _ _ Hmx.out Hv.out).mono ?_
        rintro e w4 ⟨rfl, hB4⟩
        have HB4 := Lib.hid (HB2.out.trans (hB4.mono hbs2))
        have hbs4 := HB4.out.size
        clear hB4
        cases hok : okLs Z with
        | true =>
          simp only [reduceIte]
          have HR2 := Lib.hid (show R = (q, c) by rw [HR.out, hok]; rfl)
          go_wp2_with fail
          refine (HQ.out _).mono ?_
          rintro e w5 ⟨v5, rfl, hv5, hB5⟩
          have Hv5 := Lib.hid hv5
          have HB5 := Lib.hid (HB4.out.trans (hB5.mono hbs4))
          clear hv5 hB5
          go_wp2_with fail
          go_ret2
          rw [HR2.out]
          exact ⟨_, rfl, Hv5.out, HB5.out⟩
        | false =>
          simp only [Bool.false_eq_true, reduceIte]
          have HR2 := Lib.hid (show R = ([], 4) by rw [HR.out, hok]; rfl)
          go_wp2_with fail
          go_ret2
          rw [HR2.out]
          exact ⟨_, rfl, strs_nil _, HB4.out⟩

end Go.Proofs.YtpibehfmbmincaaGreatDoor
