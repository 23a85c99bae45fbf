/- Walks: alive, great, Parse, the document's Parse. -/
import Derived.Test.YtfkmijdpcenieaaDoorSb
import Derived.Test.YtfkmijdpcenieaaDoorRf
import Derived.Test.YtfkmijdpcenieaaDoorWs
namespace Go.Proofs.YtfkmijdpcenieaaDoor
set_option linter.unusedVariables false
open Go.ChangeShapes Go.WideShapes Go.ChangeAt Go.RowKit

theorem alive_any (w : World) (hm : MaxAt w) : Calls Tryd.prog 8 #[] w fun e w' => e = .returned (.bool true) ∧ Below w.heap.size w w' := by
  have HL := line_any ⟨#[97, 44, 33, 98, 32, 99]⟩ w (by decide) hm
  rw [show okL ⟨#[97, 44, 33, 98, 32, 99]⟩ = true by decide +kernel, if_pos rfl, if_pos rfl, show valL ⟨#[97, 44, 33, 98, 32, 99]⟩ = ⟨#[40, 40, 97, 32, 38, 38, 32, 33, 98, 41, 32, 124, 124, 32, 99, 41]⟩ by decide +kernel] at HL
  have HL' := Lib.hid HL
  clear HL hm
  go_enter Tryd.func8, Tryd.ntmps8
  go_wp2_with fail
  refine HL'.out.mono ?_
  rintro e w1 ⟨rfl, hB⟩
  go_wp2_with fail
  go_ret
  exact ⟨rfl, hB⟩

def greatB (l : List ByteArray) : Bool := decide (1024 < sums l) || decide (20 < l.length)
theorem sums_take1 (l : List ByteArray) : ∀ k, k < l.length → sums (l.take (k + 1)) = sums (l.take k) + (l.getD k ByteArray.empty).size := by
  induction l with
  | nil => intro k h; simp at h
  | cons a r ih =>
    intro k h
    cases k with
    | zero => simp [sums]
    | succ k =>
      have := ih k (by simpa using h)
      rw [List.take_succ_cons, List.take_succ_cons]
      simp only [sums, List.getD_cons_succ]
      rw [this]; omega
theorem sums_take_le (l : List ByteArray) (k : Nat) : sums (l.take k) ≤ sums l := sums_take l k

set_option maxHeartbeats 400000 in
theorem great_any (v : Value) (ss : List ByteArray) (w : World) (hv : Strs w v ss) (hz : ∀ x ∈ ss, x.size ≤ 140737488351232) (hl : ss.length ≤ 9223372036854775807) :
    Calls Tryd.prog 9 #[v] w fun e w' => e = .returned (.bool (greatB ss)) ∧ w = w' := by
  obtain ⟨p, cap, rfl, hp⟩ := strs_shape hv
  have Hp := Lib.hid hp
  have Hz := Lib.hid hz
  obtain ⟨len, hlen⟩ : ∃ len, len = ss.length := ⟨_, rfl⟩
  rw [← hlen] at Hp hl ⊢
  have Hlen := Lib.hid hlen
  have Hle := Lib.hid (sums_take_le ss)
  obtain ⟨B, hB⟩ : ∃ B, B = greatB ss := ⟨_, rfl⟩
  rw [← hB]
  have HB := Lib.hid hB
  clear hv hp hlen hz hB
  go_enter Tryd.func9, Tryd.ntmps9
  go_wp2
  go_loop [3, 5, 8] (fun n _ i => ∃ k a : Nat, k ≤ len ∧ i = .int .i64 k ∧ n = .int .i64 a ∧ a = sums (ss.take k) ∧ a ≤ 1024) (fun _ _ i => len - (intOf i).toNat)
  case atStart => exact ⟨0, 0, by omega, rfl, rfl, rfl, by omega⟩
  case round =>
    obtain ⟨k, a, hk, rfl, rfl, hn, ha⟩ := hrel
    by_cases hlt : k < len
    · obtain ⟨b, off, rfl, hb, hcap, hmax, hcell⟩ := Hp.out (by omega)
      have hc := hcell k hlt
      have hkl : k < ss.length := by have := Hlen.out; omega
      have hts := sums_take1 ss k hkl
      have hmem := Hz.out _ (getD_mem hkl)
      unfold maxLen at hmax
      obtain ⟨y, hy⟩ : ∃ y, y = ss.getD k ByteArray.empty := ⟨_, rfl⟩
      rw [← hy] at hc hts hmem
      rw [← hn] at hts
      have Hts := Lib.hid hts
      clear hy hts hcell hn
      by_cases hxy : 1024 < a + y.size
      · have h1 : (1024 : Int) < (a : Int) + (y.size : Int) := by omega
        have Hin := Lib.hid (show B = true by
          have h2 := Hle.out (k + 1)
          rw [Hts.out] at h2
          rw [HB.out]; unfold greatB
          rw [decide_eq_true (show 1024 < sums ss by omega)]; rfl)
        clear hxy
        go_wp2
        go_ret
        exact ⟨by rw [Hin.out]; rfl, rfl⟩
      · have h1 : ¬ (1024 : Int) < (a : Int) + (y.size : Int) := by omega
        go_wp2
        exact ⟨⟨k + 1, a + y.size, by omega, by go_num, by go_num, Hts.out.symm, by omega⟩, by simp [intOf]; omega⟩
    · have hkl : ss.take k = ss := List.take_of_length_le (by have := Hlen.out; omega)
      rw [hkl] at hn
      obtain rfl : k = len := by omega
      have hb : B = decide (20 < k) := by
        rw [HB.out]; unfold greatB
        rw [decide_eq_false (show ¬ 1024 < sums ss by omega), ← Hlen.out]; rfl
      have Hb := Lib.hid hb
      clear hb hkl hn
      by_cases h20 : 20 < k
      · have h1 : (20 : Int) < (k : Int) := by omega
        have Hb2 := Lib.hid (Hb.out.trans (decide_eq_true h20))
        go_wp2
        go_ret
        exact ⟨by rw [Hb2.out]; rfl, rfl⟩
      · have h1 : ¬ (20 : Int) < (k : Int) := by omega
        have Hb2 := Lib.hid (Hb.out.trans (decide_eq_false h20))
        go_wp2
        go_ret
        exact ⟨by rw [Hb2.out]; rfl, rfl⟩

/-! ### Parse -/
def isPl (t : ByteArray) : Bool := Lib.hasPrefix t.data.toList [43]
def trimP (t : ByteArray) : ByteArray := mkB (Lib.trimPrefix t.data.toList [43])
def plusL (s : ByteArray) : List ByteArray := (cutB 10 s).map trimP
def parseP (s : ByteArray) : List ByteArray × Int := if isPl s then (if okLs (plusL s) then parseR (valLs (plusL s)) else ([], 4)) else parseR s
theorem trimP_size (t : ByteArray) : (trimP t).size ≤ t.size := by
  unfold trimP
  rw [mkB_size]
  have : (Lib.trimPrefix t.data.toList [43]).length ≤ t.data.toList.length := by unfold Lib.trimPrefix; split <;> simp
  rw [ba_len] at this
  exact this
theorem plusL_sums (s : ByteArray) : sums (plusL s) ≤ s.size ∧ (plusL s).length ≤ s.size + 1 := by
  have h1 := sums_map trimP 1 0 (fun x => by have := trimP_size x; omega) (cutB 10 s)
  have h2 := sums_cutB 10 s
  have h3 := cutB_ne 10 s
  unfold plusL
  rw [List.length_map]
  omega
theorem isPl_first {t : ByteArray} (h : isPl t = true) : ∃ r, t.data.toList = 43 :: r := by
  unfold isPl Lib.hasPrefix at h
  cases hl : t.data.toList with
  | nil => rw [hl] at h; simp at h
  | cons a r =>
    rw [hl] at h
    simp only [List.isPrefixOf, Bool.and_true, beq_iff_eq] at h
    subst h
    exact ⟨r, rfl⟩
theorem isPl_yes {t : ByteArray} (h : isPl t = true) : ∃ h0 : 0 < t.size, t[0]'h0 = 43 ∧ trimP t = t.extract 1 t.size := by
  obtain ⟨r, hr⟩ := isPl_first h
  have hz : 0 < t.size := by rw [← ba_len, hr]; simp
  have h3 := first_is t hz
  rw [hr] at h3
  refine ⟨hz, (List.cons.inj h3).1.symm, ?_⟩
  unfold trimP Lib.trimPrefix
  apply ba_ext
  rw [mkB_toList, Lib.extract_data, hr]
  have hp : Lib.hasPrefix (43 :: r) [43] = true := by simp [Lib.hasPrefix, List.isPrefixOf]
  rw [hp]
  have hs : t.size = r.length + 1 := by rw [← ba_len, hr]; rfl
  simp [hs]
theorem isPl_no {t : ByteArray} (h : isPl t = false) : trimP t = t ∧ ∀ h0 : 0 < t.size, ¬ t[0]'h0 = 43 := by
  refine ⟨?_, fun h0 e => ?_⟩
  · unfold trimP Lib.trimPrefix
    have h' : Lib.hasPrefix t.data.toList [43] = false := h
    rw [h']
    exact ba_ext (by rw [mkB_toList]; rfl)
  · have h3 := first_is t h0
    rw [e] at h3
    unfold isPl Lib.hasPrefix at h
    rw [h3] at h
    simp [List.isPrefixOf] at h
theorem isEmpty_no {s : ByteArray} (h : 0 < s.size) : s.toList.isEmpty = false := by
  rw [Lib.toList_data]
  have := ba_len s
  cases e : s.data.toList with
  | nil => rw [e] at this; simp at this; omega
  | cons a r => rfl
theorem trims_take {ss : List ByteArray} {k : Nat} (hk : k < ss.length) : (ss.take (k + 1)).map trimP = (ss.take k).map trimP ++ [trimP (ss.getD k ByteArray.empty)] := maps_take hk

set_option maxRecDepth 100000 in
set_option maxHeartbeats 2000000 in
theorem parse14_any (s : ByteArray) (w : World) (hs : s.size ≤ 65535) (hm : MaxAt w) : Calls Tryd.prog 15 #[.string s] w (Parsed (parseP s) w) := by
  cases hp : isPl s with
  | false =>
    have HP := Lib.hid (fun w1 => parse_any s w1 (by omega))
    unfold Parsed at HP
    rw [show parseP s = parseR s by unfold parseP; rw [hp]; rfl]
    obtain ⟨⟨l, c⟩, hr⟩ : ∃ r, parseR s = r := ⟨_, rfl⟩
    rw [hr] at HP ⊢
    simp only at HP
    have HS := Lib.hid (fun w1 => Tryd.strings_HasPrefix s ⟨#[43]⟩ w1)
    rw [show Lib.hasPrefix s.data.toList (⟨#[43]⟩ : ByteArray).data.toList = false from hp] at HS
    clear hp hr hm
    go_enter Tryd.func15, Tryd.ntmps15
    go_wp2_with fail
    refine (HS.out _).mono ?_
    rintro e w0 ⟨rfl, rfl⟩
    go_wp2_with fail
    refine (HP.out _).mono ?_
    rintro e w1 ⟨v, rfl, hv, hB⟩
    have Hv := Lib.hid hv
    clear hv
    go_wp2_with fail
    go_ret2
    exact ⟨_, rfl, Hv.out, hB⟩
  | true =>
    have hX := fun w1 => split_own 10 s w1 (by omega)
    have HX := Lib.hid hX
    clear hX
    obtain ⟨hps, hpl⟩ := plusL_sums s
    have HL := Lib.hid (fun v w1 (h1 : MaxAt w1) (hv : Strs w1 v (plusL s)) => lines_any v (plusL s) w1 hv (by omega) (by omega) h1)
    have hvs := valLs_size (plusL s)
    have HQ := Lib.hid (fun w1 => parse_any (valLs (plusL s)) w1 (by omega))
    unfold Parsed at HQ
    rw [show parseP s = (if okLs (plusL s) then parseR (valLs (plusL s)) else ([], 4)) by unfold parseP; rw [hp]; rfl]
    obtain ⟨⟨q, c⟩, hr⟩ : ∃ r, parseR (valLs (plusL s)) = r := ⟨_, rfl⟩
    rw [hr] at HQ ⊢
    simp only at HQ
    have hxl := sums_cutB 10 s
    have hxm := sums_mem (cutB 10 s)
    have hpe : plusL s = (cutB 10 s).map trimP := rfl
    obtain ⟨X, hXe⟩ : ∃ X, X = cutB 10 s := ⟨_, rfl⟩
    rw [← hXe] at HX hxl hxm hpe
    obtain ⟨Z, hZe⟩ : ∃ Z, Z = plusL s := ⟨_, rfl⟩
    rw [← hZe] at HL HQ hpe ⊢
    obtain ⟨V, hVe⟩ : ∃ V, V = valLs Z := ⟨_, rfl⟩
    rw [← hVe] at HL HQ
    have HZ := Lib.hid hpe
    obtain ⟨R, hR⟩ : ∃ R, R = (if okLs Z then (q, c) else ([], (4 : Int))) := ⟨_, rfl⟩
    rw [← hR]
    have HR := Lib.hid hR
    clear hR
    have HM := Lib.hid (fun (x : ByteArray) (hx : x ∈ X) => hxm x hx)
    obtain ⟨n, hn⟩ : ∃ n, n = X.length := ⟨_, rfl⟩
    rw [← hn] at HX hxl
    have hn0 : 0 < n := by
      have := cutB_ne 10 s
      rw [← hXe, ← hn] at this
      omega
    have Hn := Lib.hid hn
    have HS := Lib.hid (fun w1 => Tryd.strings_HasPrefix s ⟨#[43]⟩ w1)
    rw [show Lib.hasPrefix s.data.toList (⟨#[43]⟩ : ByteArray).data.toList = true from hp] at HS
    have HT := Lib.hid (fun (t : ByteArray) w1 => Tryd.strings_TrimPrefix t ⟨#[43]⟩ w1)
    have Hm := Lib.hid hm
    clear hp hr hXe hZe hVe hpe hxm hn hps hpl hvs hm
    go_enter Tryd.func15, Tryd.ntmps15
    go_wp2_with fail
    refine (HS.out _).mono ?_
    rintro e w0 ⟨rfl, rfl⟩
    go_wp2_with fail
    refine (HX.out _ Hm.out).mono ?_
    rintro e w1 ⟨v1, rfl, hown1, hB1⟩
    rw [Hn.out] at hown1
    obtain ⟨g1, cap1, rfl, hg1b, hg1l, hg1c, hg1m, hcl1⟩ := row_cells hown1 (by have := Hn.out; omega)
    rw [← Hn.out] at hg1c hcl1 ⊢
    have HCL := Lib.hid (fun w2 (h2 : Below w1.heap.size w1 w2) j (hj : j < n) => (h2.cell (p := ⟨g1, j, none⟩) hg1l).trans (hcl1 j hj))
    have HB1 := Lib.hid hB1
    have hB1s := hB1.size
    clear hown1 hcl1 hB1 HX
    go_wp2_with fail
    go_loopg [4, 6, 19] n (fun g ov _ iv wr => ∃ i : Nat, i + g = n ∧ iv = .int .i64 i ∧ wr.ownsRow w1.heap.size 9 1 ov ((X.take i).map trimP).length (((X.take i).map trimP).map Value.string) ∧ Below w1.heap.size w1 wr)
    case atStart => exact ⟨0, by omega, rfl, World.ownsRow_nil _ _ _ _, Below.refl _ _⟩
    case round =>
      obtain ⟨i, hig, rfl, hown, hB⟩ := hrel
      have hBs := hB.size
      by_cases hlt : i < n
      · have hltI : (i : Int) < (n : Int) := by omega
        have hkl : i < X.length := by have := Hn.out; omega
        have hc1 := HCL.out wr hB i hlt
        have hgr : g1 < wr.heap.size := Nat.lt_of_lt_of_le hg1l hB.size
        have hxz := HM.out _ (getD_mem hkl)
        have Hmt := Lib.hid (trims_take hkl)
        have hlen2 : ((X.take i).map trimP).length ≤ 65537 := by simp; omega
        obtain ⟨x, hx⟩ : ∃ x, x = X.getD i ByteArray.empty := ⟨_, rfl⟩
        rw [← hx] at hc1 hxz Hmt
        have htz := trimP_size x
        clear hx
        obtain ⟨y, hy⟩ : ∃ y, y = trimP x := ⟨_, rfl⟩
        rw [← hy] at Hmt htz
        have Hy := Lib.hid (show (⟨(Lib.trimPrefix x.data.toList (⟨#[43]⟩ : ByteArray).data.toList).toArray⟩ : ByteArray) = y from hy.symm)
        clear hy
        go_wp2_with fail
        refine (HT.out _ _).mono ?_
        rintro e w2 ⟨rfl, rfl⟩
        rw [Hy.out]
        go_wp2_with (at_builtin; go_must (refine wpList_append_text rfl (.tmp 23) (.tmp 26) rfl w1.heap.size _ ((X.take i).map trimP) rfl (hown.alloc _) ⟨w2.heap.size, 0, none⟩ 1 y rfl (one_new _ _ _) (by omega) (by simp; omega) ?_); intro v3 w3 hown3 hgrow3 hwh3; have hb3 := (hB.alloc hBs _).grown hgrow3 (by simp; omega) (fun k hk => (hown.lt k hk).1); clear hgrow3 hwh3 hown hB)
        go_roundg (gk - 1)
        case measure => omega
        case rel => exact ⟨i + 1, by omega, by go_num, by rw [Hmt.out]; exact hown3, hb3⟩
      · obtain rfl : i = n := by omega
        have hnI : ¬ (i : Int) < (i : Int) := by omega
        rw [show X.take i = X by rw [Hn.out, List.take_length], ← HZ.out] at hown
        have Hv := Lib.hid (Strs.ofRow hown)
        have HB2 := Lib.hid (HB1.out.trans (hB.mono hB1s))
        have Hmx := Lib.hid (Hm.out.below Hm.out.1 HB2.out)
        have hbs2 := HB2.out.size
        clear hown hB
        go_wp2_with fail
        refine (HL.out _ _ Hmx.out Hv.out).mono ?_
        rintro e w4 ⟨rfl, hB4⟩
        have HB4 := Lib.hid (HB2.out.trans (hB4.mono hbs2))
        have hbs4 := HB4.out.size
        clear hB4
        cases hok : okLs Z with
        | true =>
          simp only [reduceIte]
          have HR2 := Lib.hid (show R = (q, c) by rw [HR.out, hok]; rfl)
          go_wp2_with fail
          refine (HQ.out _).mono ?_
          rintro e w5 ⟨v5, rfl, hv5, hB5⟩
          have Hv5 := Lib.hid hv5
          have HB5 := Lib.hid (HB4.out.trans (hB5.mono hbs4))
          clear hv5 hB5
          go_wp2_with fail
          go_ret2
          rw [HR2.out]
          exact ⟨_, rfl, Hv5.out, HB5.out⟩
        | false =>
          simp only [Bool.false_eq_true, reduceIte]
          have HR2 := Lib.hid (show R = ([], 4) by rw [HR.out, hok]; rfl)
          go_wp2_with fail
          go_ret2
          rw [HR2.out]
          exact ⟨_, rfl, strs_nil _, HB4.out⟩

set_option maxRecDepth 100000 in
set_option maxHeartbeats 2000000 in
theorem rparse14_any (s : ByteArray) (w : World) (hs : s.size ≤ 65535) : Calls Tryd.prog 16 #[.string s] w (Parsed (parseP s) w) := by
  cases hp : isPl s with
  | false =>
    have HP := Lib.hid (fun w1 => refParse_any s w1 (by omega))
    unfold Parsed at HP
    rw [show parseP s = parseR s by unfold parseP; rw [hp]; rfl]
    obtain ⟨⟨l, c⟩, hr⟩ : ∃ r, parseR s = r := ⟨_, rfl⟩
    rw [hr] at HP ⊢
    simp only at HP
    have hno := (isPl_no hp).2
    clear hp hr
    by_cases hz : 0 < s.size
    · have h1 : s.toList.isEmpty = false := isEmpty_no hz
      have hzI : (0 : Int) < (s.size : Int) := by omega
      have h4 := hno hz
      have hc : (((s[0]'hz).toNat : Int) != 43) = true := by
        rw [bne_iff_ne]; intro e; exact h4 (UInt8.toNat_inj.1 (by show _ = 43; omega))
      clear h4 hno
      go_enter Tryd.func16, Tryd.ntmps16
      go_wp2_with fail
      refine (HP.out _).mono ?_
      rintro e w1 ⟨v, rfl, hv, hB⟩
      have Hv := Lib.hid hv
      clear hv
      go_wp2_with fail
      go_ret2
      exact ⟨_, rfl, Hv.out, hB⟩
    · obtain rfl : s = ⟨#[]⟩ := ba_ext (List.eq_nil_of_length_eq_zero (by rw [ba_len]; omega))
      clear hno
      go_enter Tryd.func16, Tryd.ntmps16
      go_wp2_with fail
      refine (HP.out _).mono ?_
      rintro e w1 ⟨v, rfl, hv, hB⟩
      have Hv := Lib.hid hv
      clear hv
      go_wp2_with fail
      go_ret2
      exact ⟨_, rfl, Hv.out, hB⟩
  | true =>
    have hX := fun w1 => rcut_any s 10 w1 (by omega)
    have HX := Lib.hid hX
    clear hX
    obtain ⟨hps, hpl⟩ := plusL_sums s
    have HL := Lib.hid (fun v w1 (hv : Strs w1 v (plusL s)) => rlines_any v (plusL s) w1 hv (by omega) (by omega))
    rw [show ((10 : UInt8).toNat : Int) = 10 from rfl] at HX
    have hvs := valLs_size (plusL s)
    have HQ := Lib.hid (fun w1 => refParse_any (valLs (plusL s)) w1 (by omega))
    unfold Parsed at HQ
    rw [show parseP s = (if okLs (plusL s) then parseR (valLs (plusL s)) else ([], 4)) by unfold parseP; rw [hp]; rfl]
    obtain ⟨⟨q, c⟩, hr⟩ : ∃ r, parseR (valLs (plusL s)) = r := ⟨_, rfl⟩
    rw [hr] at HQ ⊢
    simp only at HQ
    have hxl := sums_cutB 10 s
    have hxm := sums_mem (cutB 10 s)
    have hpe : plusL s = (cutB 10 s).map trimP := rfl
    obtain ⟨X, hXe⟩ : ∃ X, X = cutB 10 s := ⟨_, rfl⟩
    rw [← hXe] at HX hxl hxm hpe
    obtain ⟨Z, hZe⟩ : ∃ Z, Z = plusL s := ⟨_, rfl⟩
    rw [← hZe] at HL HQ hpe ⊢
    obtain ⟨V, hVe⟩ : ∃ V, V = valLs Z := ⟨_, rfl⟩
    rw [← hVe] at HL HQ
    have HZ := Lib.hid hpe
    obtain ⟨R, hR⟩ : ∃ R, R = (if okLs Z then (q, c) else ([], (4 : Int))) := ⟨_, rfl⟩
    rw [← hR]
    have HR := Lib.hid hR
    clear hR
    have HM := Lib.hid (fun (x : ByteArray) (hx : x ∈ X) => hxm x hx)
    obtain ⟨n, hn⟩ : ∃ n, n = X.length := ⟨_, rfl⟩
    rw [← hn] at HX hxl
    have hn0 : 0 < n := by
      have := cutB_ne 10 s
      rw [← hXe, ← hn] at this
      omega
    have Hn := Lib.hid hn
    obtain ⟨hz, h4, -⟩ := isPl_yes hp
    have h1 : s.toList.isEmpty = false := isEmpty_no hz
    have hzI : (0 : Int) < (s.size : Int) := by omega
    have hc : (((s[0]'hz).toNat : Int) != 43) = false := by rw [h4]; rfl
    clear hp hr hXe hZe hVe hpe hxm hn hps hpl hvs h4
    go_enter Tryd.func16, Tryd.ntmps16
    go_wp2_with fail
    refine (HX.out _).mono ?_
    rintro e w1 ⟨v1, rfl, hown1, hB1⟩
    rw [Hn.out] at hown1
    obtain ⟨g1, cap1, rfl, hg1b, hg1l, hg1c, hg1m, hcl1⟩ := row_cells hown1 (by have := Hn.out; omega)
    rw [← Hn.out] at hg1c hcl1 ⊢
    have HCL := Lib.hid (fun w2 (h2 : Below w1.heap.size w1 w2) j (hj : j < n) => (h2.cell (p := ⟨g1, j, none⟩) hg1l).trans (hcl1 j hj))
    have HB1 := Lib.hid hB1
    have hB1s := hB1.size
    clear hown1 hcl1 hB1 HX
    go_wp2_with fail
    go_loopg [4, 6, 23] n (fun g ov _ iv wr => ∃ i : Nat, i + g = n ∧ iv = .int .i64 i ∧ wr.ownsRow w1.heap.size 9 1 ov ((X.take i).map trimP).length (((X.take i).map trimP).map Value.string) ∧ Below w1.heap.size w1 wr)
    case atStart => exact ⟨0, by omega, rfl, World.ownsRow_nil _ _ _ _, Below.refl _ _⟩
    case round =>
      obtain ⟨i, hig, rfl, hown, hB⟩ := hrel
      have hBs := hB.size
      by_cases hlt : i < n
      · have hltI : (i : Int) < (n : Int) := by omega
        have hkl : i < X.length := by have := Hn.out; omega
        have hc1 := HCL.out wr hB i hlt
        have hgr : g1 < wr.heap.size := Nat.lt_of_lt_of_le hg1l hB.size
        have hxz := HM.out _ (getD_mem hkl)
        have Hmt := Lib.hid (trims_take hkl)
        have hlen2 : ((X.take i).map trimP).length ≤ 65537 := by simp; omega
        obtain ⟨x, hx⟩ : ∃ x, x = X.getD i ByteArray.empty := ⟨_, rfl⟩
        rw [← hx] at hc1 hxz Hmt
        have htz := trimP_size x
        clear hx
        cases hpx : isPl x with
        | true =>
          obtain ⟨hz2, h5, h6⟩ := isPl_yes hpx
          have hz2I : (0 : Int) < (x.size : Int) := by omega
          have hc2 : (((x[0]'hz2).toNat : Int) == 43) = true := by rw [h5]; rfl
          rw [h6] at Hmt htz
          clear hpx h5 h6
          go_wp2_with (at_builtin; go_must (refine wpList_append_text rfl (.tmp 37) (.tmp 39) rfl w1.heap.size _ ((X.take i).map trimP) rfl (hown.alloc _) ⟨wr.heap.size, 0, none⟩ 1 (x.extract 1 x.size) rfl (one_new _ _ _) (by omega) (by simp; omega) ?_); intro v3 w3 hown3 hgrow3 hwh3; have hb3 := (hB.alloc hBs _).grown hgrow3 (by simp; omega) (fun k hk => (hown.lt k hk).1); clear hgrow3 hwh3 hown hB)
          go_roundg (gk - 1)
          case measure => omega
          case rel => exact ⟨i + 1, by omega, by go_num, by rw [Hmt.out]; exact hown3, hb3⟩
        | false =>
          obtain ⟨h6, h5⟩ := isPl_no hpx
          rw [h6] at Hmt htz
          by_cases hz2 : 0 < x.size
          · have hz2I : (0 : Int) < (x.size : Int) := by omega
            have h7 := h5 hz2
            have hc2 : (((x[0]'hz2).toNat : Int) == 43) = false := by
              rw [beq_eq_false_iff_ne]; intro e; exact h7 (UInt8.toNat_inj.1 (by show _ = 43; omega))
            clear hpx h5 h6 h7
            go_wp2_with (at_builtin; go_must (refine wpList_append_text rfl (.tmp 37) (.tmp 39) rfl w1.heap.size _ ((X.take i).map trimP) rfl (hown.alloc _) ⟨wr.heap.size, 0, none⟩ 1 x rfl (one_new _ _ _) (by omega) (by simp; omega) ?_); intro v3 w3 hown3 hgrow3 hwh3; have hb3 := (hB.alloc hBs _).grown hgrow3 (by simp; omega) (fun k hk => (hown.lt k hk).1); clear hgrow3 hwh3 hown hB)
            go_roundg (gk - 1)
            case measure => omega
            case rel => exact ⟨i + 1, by omega, by go_num, by rw [Hmt.out]; exact hown3, hb3⟩
          · have hz2I : ¬ (0 : Int) < (x.size : Int) := by omega
            clear hpx h5 h6
            go_wp2_with (at_builtin; go_must (refine wpList_append_text rfl (.tmp 37) (.tmp 39) rfl w1.heap.size _ ((X.take i).map trimP) rfl (hown.alloc _) ⟨wr.heap.size, 0, none⟩ 1 x rfl (one_new _ _ _) (by omega) (by simp; omega) ?_); intro v3 w3 hown3 hgrow3 hwh3; have hb3 := (hB.alloc hBs _).grown hgrow3 (by simp; omega) (fun k hk => (hown.lt k hk).1); clear hgrow3 hwh3 hown hB)
            go_roundg (gk - 1)
            case measure => omega
            case rel => exact ⟨i + 1, by omega, by go_num, by rw [Hmt.out]; exact hown3, hb3⟩
      · obtain rfl : i = n := by omega
        have hnI : ¬ (i : Int) < (i : Int) := by omega
        rw [show X.take i = X by rw [Hn.out, List.take_length], ← HZ.out] at hown
        have Hv := Lib.hid (Strs.ofRow hown)
        have HB2 := Lib.hid (HB1.out.trans (hB.mono hB1s))
        have hbs2 := HB2.out.size
        clear hown hB
        go_wp2_with fail
        refine (HL.out _ _ Hv.out).mono ?_
        rintro e w4 ⟨rfl, hB4⟩
        have HB4 := Lib.hid (HB2.out.trans (hB4.mono hbs2))
        have hbs4 := HB4.out.size
        clear hB4
        cases hok : okLs Z with
        | true =>
          simp only [reduceIte]
          have HR2 := Lib.hid (show R = (q, c) by rw [HR.out, hok]; rfl)
          go_wp2_with fail
          refine (HQ.out _).mono ?_
          rintro e w5 ⟨v5, rfl, hv5, hB5⟩
          have Hv5 := Lib.hid hv5
          have HB5 := Lib.hid (HB4.out.trans (hB5.mono hbs4))
          clear hv5 hB5
          go_wp2_with fail
          go_ret2
          rw [HR2.out]
          exact ⟨_, rfl, Hv5.out, HB5.out⟩
        | false =>
          simp only [Bool.false_eq_true, reduceIte]
          have HR2 := Lib.hid (show R = ([], 4) by rw [HR.out, hok]; rfl)
          go_wp2_with fail
          go_ret2
          rw [HR2.out]
          exact ⟨_, rfl, strs_nil _, HB4.out⟩

end Go.Proofs.YtfkmijdpcenieaaDoor
