/- Walks: the statement ModfileMakes, one by one. -/
import Derived.Test.YtkmachhfibcdlaaDoorEc
namespace Go.Proofs.YtkmachhfibcdlaaDoor
set_option linter.unusedVariables false
set_option linter.unusedSimpArgs false
open Go.ChangeShapes Go.WideShapes Go.ChangeAt Go.RowKit

def MatV_one (M : MD) : Value → World → Prop := fun v w => MAt M v w
theorem MatV_one.st1 (M : MD) : K3.St1 (MatV_one M) := fun v w1 w2 H hB => MAt.below H hB
set_option maxRecDepth 100000 in
set_option maxHeartbeats 8000000 in
theorem makes_one (p : ByteArray) (n : Nat) (x2 : Option Addr) (n2 c2 : Nat) (x3 : Option Addr) (n3 c3 : Nat) (F D : List ByteArray) (w : World) (hE : Env w) (hp : p.size ≤ 140737488351232) (hF : Strs w (.slice x2 n2 c2) F) (zF : ∀ s ∈ F, s.size ≤ 140737488351232) (hD : Strs w (.slice x3 n3 c3) D) (zD : ∀ s ∈ D, s.size ≤ 140737488351232) (hn9 : n ≤ 9999) (h20 : F.length ≤ 20) (hFD : F.length ≤ D.length) (lD : D.length ≤ 9223372036854775807) :
    Calls Tryd.prog 4 #[.string p, .int .i64 (n : Int), .slice x2 n2 c2, .slice x3 n3 c3, .bool false] w fun e w' => e = .returned (.bool true) ∧ Below w.heap.size w w' := by
  obtain ⟨rfl, hqF⟩ := hF.cells
  obtain ⟨rfl, hqD⟩ := hD.cells
  have HA := Lib.hid (alive_any w hE)
  have HE := Lib.hid hE
  have HW := Lib.hid (fun w1 => word_any p w1 hp)
  have HzF := Lib.hid zF
  have HzD := Lib.hid zD
  have HqF := Lib.hid hqF
  have HqD := Lib.hid hqD
  clear hE zF zD hqF hqD hF hD
  have h20I : ¬ (20 : Int) < (F.length : Int) := by omega
  have hFDn : ¬ D.length < F.length := by omega
  have hFDb : decide (D.length < F.length) = false := decide_eq_false hFDn
  have hn0I : ¬ (n : Int) < 0 := by omega
  have hn9I : ¬ (9999 : Int) < (n : Int) := by omega
  go_enter Tryd.func4, Tryd.ntmps4
  go_wp2_with fail
  refine HA.out.mono ?_
  rintro r w1 ⟨rfl, hB⟩
  have HB := Lib.hid hB
  clear hB HA
  go_wp2_with fail
  refine (HW.out _).mono ?_
  rintro r w2 ⟨⟨b, rfl, hb⟩, rfl⟩
  cases b with
  | false =>
    go_wp2_with fail
    go_ret
    exact ⟨rfl, HB.out⟩
  | true =>
  have HP := Lib.hid (hb.1 rfl)
  have hpz : p.size ≤ 100 := HP.out.2.2
  clear hb HW
  go_wp2_with fail
  go_loopg [11, 12] (n + 1) (fun g sv iv wr => ∃ (m : Nat) (S : ByteArray), iv = .int .i64 m ∧ sv = .string S ∧ m ≤ n ∧ Hid (Dg n m S g) ∧ Hid (Below w1.heap.size w1 wr))
  case atStart => exact ⟨n, ⟨#[]⟩, rfl, rfl, Nat.le_refl _, Lib.hid (.inl ⟨rfl, rfl, rfl⟩), Lib.hid (Below.refl _ _)⟩
  case round =>
    obtain ⟨m, S, rfl, rfl, hmn, HDg, HBd⟩ := hrel
    have kS := str_lit S #[]
    have hSz := HDg.out.size hn9
    by_cases hgo : 0 < m ∨ S = ⟨#[]⟩
    · obtain ⟨hnx, hlt⟩ := HDg.out.next hgo
      have HNx := Lib.hid hnx
      have hcv := conv_digit wr (m % 10) (by omega)
      have hrm : (m : Int).tmod 10 = ((m % 10 : Nat) : Int) := by
        rw [Int.tmod_eq_emod_of_nonneg (by omega)]; rfl
      have hrq : (m : Int).tdiv 10 = ((m / 10 : Nat) : Int) := by
        rw [Int.tdiv_eq_ediv_of_nonneg (by omega)]; rfl
      have hd10 : m % 10 < 10 := Nat.mod_lt _ (by omega)
      have hq10 : m / 10 ≤ n := by omega
      obtain ⟨dg, hdg⟩ : ∃ dg, dg = mkB [UInt8.ofNat (48 + m % 10)] := ⟨_, rfl⟩
      rw [← hdg] at hcv HNx
      have hdz : dg.size = 1 := by rw [hdg, mkB_size]; rfl
      have HB2 := Lib.hid (HBd.out.trans (((Below.refl wr.heap.size wr).alloc (Nat.le_refl _) (.cells #[.int .u8 (48 + ((m % 10 : Nat) : Int))] 5)).mono HBd.out.size))
      have Hlt := Lib.hid hlt
      clear hdg hnx hlt
      generalize m % 10 = r10 at *
      generalize m / 10 = q10 at *
      by_cases hm0 : 0 < m
      · have hm0I : (0 : Int) < (m : Int) := by omega
        clear hgo kS
        go_wp2_with fail
        generalize wr.alloc (.cells #[.int .u8 (48 + (r10 : Int))] 5) = w2 at *
        go_roundg q10
        case measure => exact Hlt.out
        case rel => exact ⟨q10, _, rfl, rfl, hq10, HNx, HB2⟩
      · have hm0I : ¬ (0 : Int) < (m : Int) := by omega
        have hSe : S = ⟨#[]⟩ := by
          rcases hgo with h | h
          · exact absurd h hm0
          · exact h
        rw [decide_eq_true hSe] at kS
        have kSn := ne_of_eqb kS
        clear hgo hSe
        go_wp2_with fail
        generalize wr.alloc (.cells #[.int .u8 (48 + (r10 : Int))] 5) = w2 at *
        go_roundg q10
        case measure => exact Hlt.out
        case rel => exact ⟨q10, _, rfl, rfl, hq10, HNx, HB2⟩
    have hm0 : m = 0 := by
      rcases Nat.eq_zero_or_pos m with h | h
      · exact h
      · exact absurd (.inl h) hgo
    have hSne : S ≠ ⟨#[]⟩ := fun h => hgo (.inr h)
    have HSd := Lib.hid (show S = mkB (Lib.decDigits n) from by
      rcases HDg.out with ⟨h, _⟩ | ⟨_, _, _, h⟩
      · exact absurd h hSne
      · rw [← h hm0, mkB_data])
    rw [decide_eq_false hSne] at kS
    have kSn := ne_of_eqb kS
    have hm0I : ¬ (0 : Int) < (m : Int) := by omega
    subst hm0
    clear hgo hSne HDg hmn
    have HB2 := Lib.hid (HB.out.trans (HBd.out.mono HB.out.size))
    clear HBd HB
    have hbw := HB2.out.size
    go_upto_region 14 with fail
    clear kS kSn hm0I
    obtain ⟨S0, hS0⟩ : ∃ S0 : ByteArray, S0 = ⟨#[109, 111, 100, 117, 108, 101, 32]⟩ ++ p ++ ⟨#[10, 10, 103, 111, 32, 49, 46]⟩ ++ S ++ ⟨#[10]⟩ := ⟨_, rfl⟩
    rw [← hS0]
    have HS0 := Lib.hid (show S0.data.toList = tx [lnM p, [], lnD n] from by
      rw [hS0, HSd.out, base_false]
      simp only [ba_append, mkB_toList])
    have hS0z : S0.size ≤ 200 := by
      rw [hS0]
      simp only [ByteArray.size_append]
      have e1 : (⟨#[109, 111, 100, 117, 108, 101, 32]⟩ : ByteArray).size = 7 := rfl
      have e2 : (⟨#[10, 10, 103, 111, 32, 49, 46]⟩ : ByteArray).size = 7 := rfl
      have e3 : (⟨#[10]⟩ : ByteArray).size = 1 := rfl
      have e4 : (⟨#[114, 101, 112, 108, 97, 99, 101, 32, 40, 10]⟩ : ByteArray).size = 10 := rfl
      omega
    clear hS0 HSd hSz
    have hn1 := heap_alloc_new wr (.cells #[.string p, .int .i64 (n : Int), .slice none 0 0, .int .i64 0] 27)
    have hB3 := (Below.refl wr.heap.size wr).alloc (Nat.le_refl _) (.cells #[.string p, .int .i64 (n : Int), .slice none 0 0, .int .i64 0] 27)
    have HWM0 := Lib.hid (show WM wr.heap.size p (n : Int) [] _ from ⟨⟨_, hn1, ⟨by simp [LF], .inl ⟨rfl, rfl⟩⟩⟩⟩)
    have HB3 := Lib.hid hB3
    clear hB3 hn1
    generalize wr.alloc (.cells #[.string p, .int .i64 (n : Int), .slice none 0 0, .int .i64 0] 27) = w3 at *
    obtain ⟨b, hbe⟩ : ∃ b, b = wr.heap.size := ⟨_, rfl⟩
    rw [← hbe] at HWM0 HB3 hbw
    rw [← hbe]
    have Hbe := Lib.hid (show Below w.heap.size w w3 from HB2.out.trans (HB3.out.mono hbw))
    have hwb : w.heap.size ≤ b := by omega
    clear hbe HB2 HB3
    go_wp2_with fail
    go_loopg [13, 15, 16, 17, 74] F.length (fun g sv _ _ _ iv wr => ∃ (k : Nat) (S : ByteArray), k + g = F.length ∧ iv = .int .i64 k ∧ sv = .string S ∧ S.size ≤ 200 + k * 300 ∧ Hid (S.data.toList = tx [lnM p, [], lnD n] ++ tx (((F.zip D).take k).map (fun z => lnR (pe z)))) ∧ Hid (∀ z ∈ (F.zip D).take k, wordP z.1 ∧ wordP z.2) ∧ Hid (((F.zip D).take k).Pairwise (fun a b => a.1 ≠ b.1)) ∧ Hid (WM b p (n : Int) (((F.zip D).take k).map pe) wr) ∧ Hid (Below w.heap.size w wr))
    case atStart => exact ⟨0, S0, by omega, rfl, rfl, by omega, Lib.hid (by rw [HS0.out]; simp [tx]), Lib.hid (by simp), Lib.hid (by simp), HWM0, Hbe⟩
    case round =>
      obtain ⟨k, S, hkg, rfl, rfl, hSz, HS, HWs, HPw, HWM, HBz⟩ := hrel
      by_cases hk : k < F.length
      case neg =>
        have hkI : ¬ (k : Int) < (F.length : Int) := by omega
        have hZl : (F.zip D).length = F.length := by rw [List.length_zip]; omega
        have HWF := Lib.hid (show ∀ z ∈ F.zip D, wordP z.1 ∧ wordP z.2 by have := HWs.out; rwa [List.take_of_length_le (by omega)] at this)
        have hPF : (F.zip D).Pairwise (fun a b => a.1 ≠ b.1) := by have := HPw.out; rwa [List.take_of_length_le (by omega)] at this
        have hSl := HS.out
        rw [List.take_of_length_le (by omega)] at hSl
        have hWM := HWM.out
        rw [List.take_of_length_le (by omega)] at hWM
        have hOM := makes_mod false p n ((F.zip D).map pe) HP.out hn9 (fun x hx => by
          obtain ⟨y, hy, rfl⟩ := List.mem_map.1 hx
          exact ⟨(HWF.out y hy).1, pe_dir y, by rw [pe_list]; exact word_dir (HWF.out y hy).2⟩) (fun x hx => by
          obtain ⟨y, hy, rfl⟩ := List.mem_map.1 hx
          rw [pe_list]
          intro hm
          rcases List.mem_append.1 hm with hm | hm
          · exact absurd hm (by decide)
          · exact word_no10 (HWF.out y hy).2 hm) (by
          rw [List.pairwise_map]
          exact hPF)
        have HXs := Lib.hid (show (∀ t ∈ (F.zip D).map pe, RpB t) ∧ ((F.zip D).map pe).length ≤ 16777216 from ⟨fun t ht => by
          obtain ⟨y, hy, rfl⟩ := List.mem_map.1 ht
          have h1 := (HWF.out y hy).1.2.2
          have h2 := (HWF.out y hy).2.2.2
          exact ⟨by show y.1.size ≤ _; omega, by
            show (wDS ++ y.2).size ≤ _
            rw [ByteArray.size_append]
            have : wDS.size = 2 := rfl
            omega⟩, by rw [List.length_map]; omega⟩)
        have hkF : k * 300 ≤ 6000 := by omega
        obtain ⟨S8, hS8⟩ : ∃ S8 : ByteArray, S8 = S := ⟨_, rfl⟩
        obtain ⟨S9, hS9⟩ : ∃ S9 : ByteArray, S9 = S8 ++ ⟨#[114, 101, 113, 117, 105, 114, 101, 32, 120, 32, 118, 49, 10]⟩ := ⟨_, rfl⟩
        have hS9e : S9 = mkB (tx (lnM p :: [] :: lnD n :: (midL false ((F.zip D).map pe) ++ [lnQ wX]))) := by
          rw [← mkB_data S9, hS9, hS8, mid_false, List.map_map]
          congr 1
          simp only [ba_append, hSl]
          rfl
        rw [← hS9e] at hOM
        have hS8z : S8.size ≤ 90000 := by
          rw [hS8]
          omega
        have hS9z : S9.size ≤ 100000 := by
          rw [hS9]
          simp only [ByteArray.size_append]
          have e2 : (⟨#[114, 101, 113, 117, 105, 114, 101, 32, 120, 32, 118, 49, 10]⟩ : ByteArray).size = 13 := rfl
          omega
        have HP9 := Lib.hid (fun w1 (hB : Below w.heap.size w w1) => parse_any S9 w1 (HE.out.below hB) (by omega))
        rw [hOM] at HP9
        obtain ⟨rv, hbox, hown⟩ := hWM.f
        have hlat := LAt.own (fun x _ => rpV_len x) hown
        obtain ⟨pt, ct, hrv, _⟩ := lat_shape hlat
        subst hrv
        unfold wmA at hbox
        have HS9 := Lib.hid hS9
        have HS8e := Lib.hid hS8
        clear hS9 hS8 hS9e hOM HWF hPF hSl HS HWs HPw HS0 HWM hown HzF HzD HqF HqD hWM hZl
        generalize (F.zip D).map pe = XX at *
        obtain ⟨M9, hM9⟩ : ∃ M9 : MD, M9 = ⟨p, (n : Int), XX, 0⟩ := ⟨_, rfl⟩
        have HM9 := Lib.hid (show MAt M9 (.agg #[.string p, .int .i64 (n : Int), .slice pt XX.length ct, .int .i64 0]) wr from by rw [hM9]; exact ⟨_, rfl, hlat⟩)
        have HS8 := Lib.hid (fun (u v : Value) w1 (hu : MAt M9 u w1) (hv : MAt M9 v w1) => same_true M9 u v w1 hu hv (by rw [hM9]; exact HXs.out.1) (by rw [hM9]; exact HXs.out.2))
        rw [← hM9] at HP9
        clear hM9 hlat HXs
        go_upto_region 31 with fail
        rw [← HS8e.out]
        have hsz9 : S8.size + 13 ≤ 9223372036854775807 := by omega
        generalize wr = w10 at *
        have HB10 := HBz
        have hRL : ∃ Rs : List (Value → World → Prop), Rs = [K3.PureV (.string S8),
            K3.PureV (.string S9),
            MatV_one M9,
            K3.PureV (.agg #[.string p, .int .i64 (n : Nat), .slice pt XX.length ct, .int .i64 0]),
            K3.PureV (.bool true),
            K3.PureV (.bool true)] := ⟨_, rfl⟩
        obtain ⟨Rs, hRs⟩ := hRL
        refine K3.wp_region_rel2 w10.heap.size (Nat.le_refl _) (K3.RL Rs) [2, 2, 1, 2, 2, 2] [1, 1, 1, 1, 1, 1] [] (by kernel_rfl) (by kernel_rfl) (K3.RL.st1 (by rw [hRs]; exact K3.st1_cons (K3.PureV.st1 _) (K3.st1_cons (K3.PureV.st1 _) (K3.st1_cons (MatV_one.st1 M9) (K3.st1_cons (K3.PureV.st1 _) (K3.st1_cons (K3.PureV.st1 _) (K3.st1_cons (K3.PureV.st1 _) (K3.st1_nil)))))))) (K3.RL.st2 (by rw [hRs]; exact K3.st2_cons (K3.PureV.st2 _ _ _) (K3.st2_cons (K3.PureV.st2 _ _ _) (K3.st2_skip (K3.st2_cons (K3.PureV.st2 _ _ _) (K3.st2_cons (K3.PureV.st2 _ _ _) (K3.st2_cons (K3.PureV.st2 _ _ _) (K3.st2_nil)))))))) ?_ ?_ ?_
        · intro i o d hi hd
          have hmem := List.mem_of_getElem? hi
          simp only [List.mem_cons, List.not_mem_nil, or_false] at hmem
          rcases hmem with rfl | rfl | rfl | rfl | rfl | rfl <;> simp at hd <;> (subst hd; simp)
        · refine K3.rel_start (Φ := K3.Hop _ _ _ _ _ _ _) ?_
          refine K3.rel_cons (Φ := K3.Hop _ _ _ _ _ _ _) (k := 0) ?_ ?_
          · intro fa fw hfB hfN hfE hfk hft
            have k13 : fa.eval (.tmp 13) = .string S8 := hft 13 (K3.mem_looks (by kernel_rfl)) (K3.noneed (by kernel_rfl))
            rw [hRs]
            refine K3.hop_plain rfl ?_
            refine K3.out_move rfl ?_
            exact ⟨k13, Below.refl _ _⟩
          refine K3.rel_cons (Φ := K3.Hop _ _ _ _ _ _ _) (k := 1) ?_ ?_
          · intro fa fw hfB hfN hfE hfk hft
            have k131 : fa.eval (.tmp 131) = (.string S8) := by have := hfk 0 (K3.mem_needs (by kernel_rfl)) _ rfl; rw [hRs] at this; exact this
            rw [hRs]
            refine K3.hop_plain rfl ?_
            have kc : ∀ v, fa.eval (.const v) = v := fun _ => rfl
            generalize fa.eval = ρ at *
            exact K3.out_run (v := .string S9) (w' := fw) (by rw [HS9.out]; simp [execOp, kc, k131, go_sem, hsz9]) ⟨rfl, Below.refl _ _⟩
          refine K3.rel_cons (Φ := K3.Hop _ _ _ _ _ _ _) (k := 2) ?_ ?_
          · intro fa fw hfB hfN hfE hfk hft
            have hE : Below w10.drew.heap.size w10.drew fw := hfE (by kernel_rfl)
            have k132 : fa.eval (.tmp 132) = (.string S9) := by have := hfk 1 (K3.mem_needs (by kernel_rfl)) _ rfl; rw [hRs] at this; exact this
            rw [hRs]
            refine K3.hop_plain rfl ?_
            have hE2 := ((Below.refl w10.heap.size w10).drew).trans hE
            have kf : fa.eval (.func 8) = .func (.func 8) #[] #[] := rfl
            refine K3.out_call (f := 8) (args := #[.string S9]) (by generalize fa.eval = ρ at *; simp [execOp, k132, kf, go_sem]) ?_
            exact (HP9.out fw (HB10.out.trans (hE2.mono HB10.out.size))).mono fun e w'' ⟨v, h1, h2, h3⟩ => ⟨v, h1, h2, h3⟩
          refine K3.rel_cons (Φ := K3.Hop _ _ _ _ _ _ _) (k := 3) ?_ ?_
          · intro fa fw hfB hfN hfE hfk hft
            have hE : Below w10.drew.heap.size w10.drew fw := hfE (by kernel_rfl)
            have k14 : fa.eval (.tmp 14) = .pointer (some ⟨b, 0, none⟩) := hft 14 (K3.mem_looks (by kernel_rfl)) (K3.noneed (by kernel_rfl))
            rw [hRs]
            refine K3.hop_plain rfl ?_
            have hE2 := ((Below.refl w10.heap.size w10).drew).trans hE
            have hbx := (hE2.block _ (lt_of_block hbox)).trans hbox
            refine out_load3 rfl k14 ?_ ⟨rfl, Below.refl _ _⟩
            exact run_loadVar_row fw b 27 27 _ (0, 0) _ hbx Tryd.underlying27 rfl size27
          refine K3.rel_cons (Φ := K3.Hop _ _ _ _ _ _ _) (k := 4) ?_ ?_
          · intro fa fw hfB hfN hfE hfk hft
            have hE : Below w10.drew.heap.size w10.drew fw := hfE (by kernel_rfl)
            have k133 : (MatV_one M9) (fa.eval (.tmp 133)) fw := by have := hfk 2 (K3.mem_needs (by kernel_rfl)) _ rfl; rw [hRs] at this; exact this
            have k134 : fa.eval (.tmp 134) = (.agg #[.string p, .int .i64 (n : Nat), .slice pt XX.length ct, .int .i64 0]) := by have := hfk 3 (K3.mem_needs (by kernel_rfl)) _ rfl; rw [hRs] at this; exact this
            rw [hRs]
            refine K3.hop_plain rfl ?_
            have hE2 := ((Below.refl w10.heap.size w10).drew).trans hE
            have k133 : MAt M9 (fa.eval (.tmp 133)) fw := k133
            have kf : fa.eval (.func 9) = .func (.func 9) #[] #[] := rfl
            refine K3.out_call (f := 9) (args := #[fa.eval (.tmp 133), .agg #[.string p, .int .i64 (n : Nat), .slice pt XX.length ct, .int .i64 0]]) (by generalize fa.eval = ρ at *; simp [execOp, k134, kf, go_sem]) ?_
            exact (HS8.out _ _ fw k133 (HM9.out.below hE2)).mono fun e w'' ⟨h1, h2⟩ => ⟨_, h1, rfl, h2⟩
          refine K3.rel_cons (Φ := K3.Hop _ _ _ _ _ _ _) (k := 5) ?_ ?_
          · intro fa fw hfB hfN hfE hfk hft
            have k135 : fa.eval (.tmp 135) = (.bool true) := by have := hfk 4 (K3.mem_needs (by kernel_rfl)) _ rfl; rw [hRs] at this; exact this
            rw [hRs]
            refine K3.hop_plain rfl ?_
            refine K3.out_assign rfl ?_
            exact ⟨k135, Below.refl _ _⟩
          exact K3.rel_nil
        · intro fa fw hfB hfy hff hfs hfd
          rw [hRs] at hfy
          have k10 : fa.eval (.tmp 10) = (.bool true) := hfy 5 _ rfl (K3.unkilled (by decide))
          have e := K3.rel_frame [131, 132, 133, 134, 135, 10] (by kernel_rfl) hff hfs hfd
          simp only [List.foldl] at e
          rw [show fa.tmps.getD 10 undef = .bool true from k10] at e
          clear hfy hff hfs hfd k10
          generalize fa.tmps.getD 131 undef = x131 at e
          generalize fa.tmps.getD 132 undef = x132 at e
          generalize fa.tmps.getD 133 undef = x133 at e
          generalize fa.tmps.getD 134 undef = x134 at e
          generalize fa.tmps.getD 135 undef = x135 at e
          simp [List.setIfInBounds_toArray, List.set_cons_succ, List.set_cons_zero] at e
          subst e
          have HBF := HB10.out.trans (((Below.refl _ w10).drew.trans hfB).mono HB10.out.size)
          clear hfB
          go_wp2_with fail
          go_ret
          exact ⟨rfl, HBF⟩
      have hkI : (k : Int) < (F.length : Int) := by omega
      have hkD : k < D.length := by omega
      have hkDI : (k : Int) < (D.length : Int) := by omega
      obtain ⟨_, _, g2, o2, rfl, hg2, hclF⟩ := HqF.out (by omega)
      obtain ⟨_, _, g3, o3, rfl, hg3, hclD⟩ := HqD.out (by omega)
      have HC := Lib.hid (fun i h => (HBz.out.cell (p := ⟨g2, o2 + i, none⟩) hg2).trans (hclF i h))
      have hc := HC.out k hk
      have hcd := (HBz.out.cell (p := ⟨g3, o3 + k, none⟩) hg3).trans (hclD k hkD)
      have HX := Lib.hid (fun w1 => word_any (F[k]'hk) w1 (HzF.out _ (List.getElem_mem hk)))
      have HY := Lib.hid (fun w1 => word_any (D[k]'hkD) w1 (HzD.out _ (List.getElem_mem hkD)))
      have HFk := Lib.hid (show F[k]? = some (F[k]'hk) from List.getElem?_eq_getElem hk)
      have HDk := Lib.hid (show D[k]? = some (D[k]'hkD) from List.getElem?_eq_getElem hkD)
      clear hclF hclD
      generalize F[k]'hk = x at *
      generalize D[k]'hkD = d at *
      go_wp2_with fail
      refine (HX.out _).mono ?_
      rintro r w4 ⟨⟨b1, rfl, hb1⟩, rfl⟩
      cases b1 with
      | false =>
        go_wp2_with fail
        go_ret
        exact ⟨rfl, HBz.out⟩
      | true =>
      have HXw := Lib.hid (hb1.1 rfl)
      have hxz : x.size ≤ 100 := HXw.out.2.2
      clear hb1 HX
      go_wp2_with fail
      refine (HY.out _).mono ?_
      rintro r w4 ⟨⟨b1, rfl, hb1⟩, rfl⟩
      cases b1 with
      | false =>
        go_wp2_with fail
        go_ret
        exact ⟨rfl, HBz.out⟩
      | true =>
      have HDw := Lib.hid (hb1.1 rfl)
      have hdz : d.size ≤ 100 := HDw.out.2.2
      clear hb1 HY
      go_wp2_with fail
      go_loopg [17] k (fun g jv wy => ∃ j : Nat, j + g = k ∧ jv = .int .i64 j ∧ Hid (∀ i, i < j → F[i]? ≠ some x) ∧ wy = wr)
      case atStart => exact ⟨0, by omega, rfl, Lib.hid (fun i h => absurd h (Nat.not_lt_zero _)), rfl⟩
      case round =>
        obtain ⟨j, hjg, rfl, HJ, rfl⟩ := hrel
        by_cases hj : j < k
        · have hjI : (j : Int) < (k : Int) := by omega
          have hjF : j < F.length := by omega
          have hjFI : (j : Int) < (F.length : Int) := by omega
          have hcj := HC.out j hjF
          have HFj := Lib.hid (show F[j]? = some (F[j]'hjF) from List.getElem?_eq_getElem hjF)
          generalize F[j]'hjF = y at *
          have ke := str_eqb y x
          by_cases hyx : y = x
          · rw [decide_eq_true hyx] at ke
            clear hyx
            go_wp2_with fail
            go_ret
            exact ⟨rfl, HBz.out⟩
          · rw [decide_eq_false hyx] at ke
            have HYx := Lib.hid hyx
            clear hyx
            go_wp2_with fail
            go_roundg (gk - 1)
            case measure => omega
            case rel =>
              refine ⟨j + 1, by omega, by go_num, Lib.hid (fun i hi => ?_), rfl⟩
              by_cases he : i = j
              · rw [he, HFj.out]
                intro e
                injection e with e
                exact HYx.out e
              · exact HJ.out i (by omega)
        have hjI : ¬ (j : Int) < (k : Int) := by omega
        have hkm : k * 300 ≤ 6000 := by omega
        have Hgk := Lib.hid hkg
        go_upto_region 27 with fail
        obtain ⟨S2, hS2⟩ : ∃ S2 : ByteArray, S2 = S ++ ⟨#[114, 101, 112, 108, 97, 99, 101, 32]⟩ ++ x ++ ⟨#[32, 61, 62, 32, 46, 47]⟩ ++ d ++ ⟨#[10]⟩ := ⟨_, rfl⟩
        rw [← hS2]
        have HS2 := Lib.hid (show S2.data.toList = S.data.toList ++ tx [lnR (pe (x, d))] from by rw [hS2]; exact more_R S x d)
        have hS2z : S2.size ≤ 200 + (k + 1) * 300 := by
          rw [hS2]
          simp only [ByteArray.size_append]
          have e1 : (⟨#[114, 101, 112, 108, 97, 99, 101, 32]⟩ : ByteArray).size = 8 := rfl
          have e2 : (⟨#[32, 61, 62, 32, 46, 47]⟩ : ByteArray).size = 6 := rfl
          have e3 : (⟨#[10]⟩ : ByteArray).size = 1 := rfl
          omega
        clear hS2
        have hZk : ((F.zip D).take k).length = k := by rw [List.length_take, List.length_zip]; omega
        have hZe := zip_at HFk.out HDk.out
        have HPn := Lib.hid (show ((F.zip D).take (k + 1)).Pairwise (fun a b => a.1 ≠ b.1) by
          rw [hZe, List.pairwise_append]
          refine ⟨HPw.out, List.pairwise_singleton _ _, fun a ha b hb => ?_⟩
          rw [List.mem_singleton.1 hb]
          obtain ⟨i, hi, he⟩ := List.mem_iff_getElem.1 ha
          have hik : i < k := by omega
          have h1 := HJ.out i (by omega)
          intro e2
          apply h1
          rw [List.getElem_take, List.getElem_zip] at he
          rw [List.getElem?_eq_getElem (by omega)]
          congr 1
          rw [← he] at e2
          exact e2)
        have HWn := Lib.hid (show ∀ z ∈ (F.zip D).take (k + 1), wordP z.1 ∧ wordP z.2 by
          rw [hZe]
          intro z hz
          rcases List.mem_append.1 hz with hz | hz
          · exact HWs.out z hz
          · rw [List.mem_singleton.1 hz]; exact ⟨HXw.out, HDw.out⟩)
        have HSn := Lib.hid (show S2.data.toList = tx [lnM p, [], lnD n] ++ tx (((F.zip D).take (k + 1)).map (fun z => lnR (pe z))) by
          rw [hZe, List.map_append, tx_app, ← List.append_assoc, ← HS.out]
          exact HS2.out)
        have hIe : ((F.zip D).take (k + 1)).map pe = ((F.zip D).take k).map pe ++ [(x, wDS ++ d)] := by rw [hZe, List.map_append]; rfl
        obtain ⟨rv, hbox, hI0⟩ := HWM.out.f
        obtain ⟨pt, ct, hrv⟩ := own_sliceR hI0
        subst hrv
        have hIl : (((F.zip D).take k).map pe).length = k := by rw [List.length_map, hZk]
        have hIle : (((F.zip D).take k).map pe).length ≤ 16777216 := by omega
        have hlt : b < wr.heap.size := lt_of_block hbox
        have hble : b ≤ wr.heap.size := Nat.le_of_lt hlt
        have hdz2 : 2 + d.size ≤ 9223372036854775807 := by omega
        have hgz : g3 < wr.heap.size := Nat.lt_of_lt_of_le hg3 HBz.out.size
        clear HS2 hZe HWs HPw HS HXw HDw HJ hjg hjI hZk
        generalize ((F.zip D).take k).map pe = I at *
        clear hIl
        generalize wr = w10 at *
        have hd4 : Below w10.heap.size w10 w10.drew := (Below.refl _ _).drew
        have hRL : ∃ Rs : List (Value → World → Prop), Rs = [K3.PureV (.pointer (some ⟨b, 2, none⟩)),
            WBE b p n I (.slice pt I.length ct),
            K3.PureV (.string x),
            K3.PureV (.slice (some ⟨g3, o3, none⟩) D.length c3),
            K3.PureV (.int .i64 (k : Nat)),
            K3.PureV (.pointer (some ⟨g3, o3 + k, none⟩)),
            K3.PureV (.string d),
            K3.PureV (.string (wDS ++ d)),
            K3.PureV (.agg (rpV (x, wDS ++ d)).toArray),
            K3.NewB 1 (rpV (x, wDS ++ d)).toArray 34,
            WB b p n (I ++ [(x, wDS ++ d)]),
            K3.PureV (.pointer (some ⟨b, 2, none⟩)),
            WF_ b p n (I ++ [(x, wDS ++ d)])] := ⟨_, rfl⟩
        obtain ⟨Rs, hRs⟩ := hRL
        refine K3.wp_region_rel2 b hble (K3.RL Rs) [2, 1, 2, 2, 2, 2, 2, 2, 2, 1, 1, 2, 1] [1, 1, 1, 1, 1, 1, 1, 1, 1, 1, 2, 1, 2] [[], [], [], [], [], [], [], [], [], [], [1, 9], [], [1, 9, 10]] (by kernel_rfl) (by kernel_rfl) (K3.RL.st1 (by rw [hRs]; exact K3.st1_cons (K3.PureV.st1 _) (K3.st1_cons (WBE.st1 _ _ _ _ _) (K3.st1_cons (K3.PureV.st1 _) (K3.st1_cons (K3.PureV.st1 _) (K3.st1_cons (K3.PureV.st1 _) (K3.st1_cons (K3.PureV.st1 _) (K3.st1_cons (K3.PureV.st1 _) (K3.st1_cons (K3.PureV.st1 _) (K3.st1_cons (K3.PureV.st1 _) (K3.st1_cons (K3.NewB.st1 _ _ _) (K3.st1_cons (WB.st1 _ _ _ _) (K3.st1_cons (K3.PureV.st1 _) (K3.st1_cons (WF_.st1 _ _ _ _) (K3.st1_nil))))))))))))))) (K3.RL.st2 (by rw [hRs]; exact K3.st2_cons (K3.PureV.st2 _ _ _) (K3.st2_skip (K3.st2_cons (K3.PureV.st2 _ _ _) (K3.st2_cons (K3.PureV.st2 _ _ _) (K3.st2_cons (K3.PureV.st2 _ _ _) (K3.st2_cons (K3.PureV.st2 _ _ _) (K3.st2_cons (K3.PureV.st2 _ _ _) (K3.st2_cons (K3.PureV.st2 _ _ _) (K3.st2_cons (K3.PureV.st2 _ _ _) (K3.st2_skip (K3.st2_skip (K3.st2_cons (K3.PureV.st2 _ _ _) (K3.st2_skip (K3.st2_nil))))))))))))))) ?_ ?_ ?_
        · intro i o d hi hd
          have hmem := List.mem_of_getElem? hi
          simp only [List.mem_cons, List.not_mem_nil, or_false] at hmem
          rcases hmem with rfl | rfl | rfl | rfl | rfl | rfl | rfl | rfl | rfl | rfl | rfl | rfl | rfl <;> simp at hd <;> (subst hd; simp)
        · refine K3.rel_start (Φ := K3.Hop _ _ _ _ _ _ _) ?_
          refine K3.rel_cons (Φ := K3.Hop _ _ _ _ _ _ _) (k := 0) ?_ ?_
          · intro fa fw hfB hfN hfE hfk hft
            have k14 : fa.eval (.tmp 14) = .pointer (some ⟨b, 0, none⟩) := hft 14 (K3.mem_looks (by kernel_rfl)) (K3.noneed (by kernel_rfl))
            rw [hRs]
            refine K3.hop_plain rfl ?_
            generalize fa.eval = ρ at *
            exact K3.out_run (v := .pointer (some ⟨b, 2, none⟩)) (w' := fw) (by simp [execOp, k14, go_sem]) ⟨rfl, Below.refl _ _⟩
          refine K3.rel_cons (Φ := K3.Hop _ _ _ _ _ _ _) (k := 1) ?_ ?_
          · intro fa fw hfB hfN hfE hfk hft
            have hE : Below w10.drew.heap.size w10.drew fw := hfE (by kernel_rfl)
            have k115 : fa.eval (.tmp 115) = (.pointer (some ⟨b, 2, none⟩)) := by have := hfk 0 (K3.mem_needs (by kernel_rfl)) _ rfl; rw [hRs] at this; exact this
            rw [hRs]
            refine K3.hop_plain rfl ?_
            have hbx := (hE.block b (Nat.lt_of_lt_of_le hlt hd4.size)).trans (show w10.drew.heap[b]? = _ from hbox)
            have hB9 := hd4.trans (hE.mono hd4.size)
            exact out_load3 rfl k115 (by simp [wmA, go_sem, block_cell hbx]) ⟨⟨rfl, ⟨_, hbx, gen_own_below hI0 hB9⟩⟩, Below.refl _ _⟩
          refine K3.rel_cons (Φ := K3.Hop _ _ _ _ _ _ _) (k := 2) ?_ ?_
          · intro fa fw hfB hfN hfE hfk hft
            have k16 : fa.eval (.tmp 16) = .string x := hft 16 (K3.mem_looks (by kernel_rfl)) (K3.noneed (by kernel_rfl))
            rw [hRs]
            refine K3.hop_plain rfl ?_
            refine K3.out_move rfl ?_
            exact ⟨k16, Below.refl _ _⟩
          refine K3.rel_cons (Φ := K3.Hop _ _ _ _ _ _ _) (k := 3) ?_ ?_
          · intro fa fw hfB hfN hfE hfk hft
            have k3 : fa.eval (.tmp 3) = .slice (some ⟨g3, o3, none⟩) D.length c3 := hft 3 (K3.mem_looks (by kernel_rfl)) (K3.noneed (by kernel_rfl))
            rw [hRs]
            refine K3.hop_plain rfl ?_
            refine K3.out_move rfl ?_
            exact ⟨k3, Below.refl _ _⟩
          refine K3.rel_cons (Φ := K3.Hop _ _ _ _ _ _ _) (k := 4) ?_ ?_
          · intro fa fw hfB hfN hfE hfk hft
            have k15 : fa.eval (.tmp 15) = .int .i64 (k : Nat) := hft 15 (K3.mem_looks (by kernel_rfl)) (K3.noneed (by kernel_rfl))
            rw [hRs]
            refine K3.hop_plain rfl ?_
            refine K3.out_move rfl ?_
            exact ⟨k15, Below.refl _ _⟩
          refine K3.rel_cons (Φ := K3.Hop _ _ _ _ _ _ _) (k := 5) ?_ ?_
          · intro fa fw hfB hfN hfE hfk hft
            have k118 : fa.eval (.tmp 118) = (.slice (some ⟨g3, o3, none⟩) D.length c3) := by have := hfk 3 (K3.mem_needs (by kernel_rfl)) _ rfl; rw [hRs] at this; exact this
            have k119 : fa.eval (.tmp 119) = (.int .i64 (k : Nat)) := by have := hfk 4 (K3.mem_needs (by kernel_rfl)) _ rfl; rw [hRs] at this; exact this
            rw [hRs]
            refine K3.hop_plain rfl ?_
            have kc : ∀ v, fa.eval (.const v) = v := fun _ => rfl
            generalize fa.eval = ρ at *
            exact K3.out_run (v := .pointer (some ⟨g3, o3 + k, none⟩)) (w' := fw) (by simp [execOp, kc, k118, k119, go_sem, hkDI]) ⟨rfl, Below.refl _ _⟩
          refine K3.rel_cons (Φ := K3.Hop _ _ _ _ _ _ _) (k := 6) ?_ ?_
          · intro fa fw hfB hfN hfE hfk hft
            have hE : Below w10.drew.heap.size w10.drew fw := hfE (by kernel_rfl)
            have k120 : fa.eval (.tmp 120) = (.pointer (some ⟨g3, o3 + k, none⟩)) := by have := hfk 5 (K3.mem_needs (by kernel_rfl)) _ rfl; rw [hRs] at this; exact this
            rw [hRs]
            refine K3.hop_plain rfl ?_
            have hbx := (hE.cell (p := ⟨g3, o3 + k, none⟩) (Nat.lt_of_lt_of_le hgz hd4.size)).trans (show w10.drew.cell? ⟨g3, o3 + k, none⟩ = _ from hcd)
            exact out_load3 rfl k120 (by simp [go_sem, hbx]) ⟨rfl, Below.refl _ _⟩
          refine K3.rel_cons (Φ := K3.Hop _ _ _ _ _ _ _) (k := 7) ?_ ?_
          · intro fa fw hfB hfN hfE hfk hft
            have k121 : fa.eval (.tmp 121) = (.string d) := by have := hfk 6 (K3.mem_needs (by kernel_rfl)) _ rfl; rw [hRs] at this; exact this
            rw [hRs]
            refine K3.hop_plain rfl ?_
            have kc : ∀ v, fa.eval (.const v) = v := fun _ => rfl
            generalize fa.eval = ρ at *
            exact K3.out_run (v := .string (wDS ++ d)) (w' := fw) (by simp [execOp, kc, k121, go_sem, hdz2]) ⟨rfl, Below.refl _ _⟩
          refine K3.rel_cons (Φ := K3.Hop _ _ _ _ _ _ _) (k := 8) ?_ ?_
          · intro fa fw hfB hfN hfE hfk hft
            have k117 : fa.eval (.tmp 117) = (.string x) := by have := hfk 2 (K3.mem_needs (by kernel_rfl)) _ rfl; rw [hRs] at this; exact this
            have k122 : fa.eval (.tmp 122) = (.string (wDS ++ d)) := by have := hfk 7 (K3.mem_needs (by kernel_rfl)) _ rfl; rw [hRs] at this; exact this
            rw [hRs]
            refine K3.hop_plain rfl ?_
            exact out_build3 rfl (by simp only [List.map_toArray, List.map_cons, List.map_nil, k117, k122]) (build_rp fw x (wDS ++ d)) ⟨rfl, Below.refl _ _⟩
          refine K3.rel_cons (Φ := K3.Hop _ _ _ _ _ _ _) (k := 9) ?_ ?_
          · intro fa fw hfB hfN hfE hfk hft
            have k123 : fa.eval (.tmp 123) = (.agg (rpV (x, wDS ++ d)).toArray) := by have := hfk 8 (K3.mem_needs (by kernel_rfl)) _ rfl; rw [hRs] at this; exact this
            rw [hRs]
            refine K3.hop_plain rfl ?_
            exact out_buildSlice3 rfl (by simp only [List.map_toArray, List.map_cons, List.map_nil, k123]) (slice_rp fw (x, wDS ++ d)) ⟨⟨_, rfl, heap_alloc_new _ _⟩, (Below.refl _ _).alloc (Nat.le_refl _) _⟩
          refine K3.rel_cons (Φ := K3.Hop _ _ _ _ _ _ _) (k := 10) ?_ ?_
          · intro fa fw hfB hfN hfE hfk hft
            have k116 : (WBE b p n I (.slice pt I.length ct)) (fa.eval (.tmp 116)) fw := by have := hfk 1 (K3.mem_needs (by kernel_rfl)) _ rfl; rw [hRs] at this; exact this
            have k124 : (K3.NewB 1 (rpV (x, wDS ++ d)).toArray 34) (fa.eval (.tmp 124)) fw := by have := hfk 9 (K3.mem_needs (by kernel_rfl)) _ rfl; rw [hRs] at this; exact this
            rw [hRs]
            refine K3.hop_plain rfl ?_
            obtain ⟨hv0, hb0⟩ := k116
            obtain ⟨B1, hb1, hb2⟩ := k124
            obtain ⟨u1, q1, q2⟩ := hb0.f
            obtain ⟨v', w', hr, ho, hg, ha⟩ := run_append_gen2 eltR fw (b + 1) _ _ _ _ [(x, wDS ++ d)] q2 (LAt.block rfl rfl hb2) (by simp only [List.length_cons, List.length_nil]; omega) (by unfold maxLen; simp only [List.length_cons, List.length_nil]; omega) (by have := lt_of_block q1; omega)
            obtain ⟨z1, z2⟩ := hb0.grow ho hg
            exact out_append_k3 (.tmp 116) (.tmp 124) 25 rfl hv0 hb1 hr ⟨z1, z2⟩
          refine K3.rel_cons (Φ := K3.Hop _ _ _ _ _ _ _) (k := 11) ?_ ?_
          · intro fa fw hfB hfN hfE hfk hft
            have k14 : fa.eval (.tmp 14) = .pointer (some ⟨b, 0, none⟩) := hft 14 (K3.mem_looks (by kernel_rfl)) (K3.noneed (by kernel_rfl))
            rw [hRs]
            refine K3.hop_plain rfl ?_
            generalize fa.eval = ρ at *
            exact K3.out_run (v := .pointer (some ⟨b, 2, none⟩)) (w' := fw) (by simp [execOp, k14, go_sem]) ⟨rfl, Below.refl _ _⟩
          refine K3.rel_cons (Φ := K3.Hop _ _ _ _ _ _ _) (k := 12) ?_ ?_
          · intro fa fw hfB hfN hfE hfk hft
            have k126 : fa.eval (.tmp 126) = (.pointer (some ⟨b, 2, none⟩)) := by have := hfk 11 (K3.mem_needs (by kernel_rfl)) _ rfl; rw [hRs] at this; exact this
            have k125 : (WB b p n (I ++ [(x, wDS ++ d)])) (fa.eval (.tmp 125)) fw := by have := hfk 10 (K3.mem_needs (by kernel_rfl)) _ rfl; rw [hRs] at this; exact this
            rw [hRs]
            refine K3.hop_plain rfl ?_
            obtain ⟨u1, q1, q2⟩ := k125.f
            obtain ⟨p6, c6, hv6⟩ := own_sliceR q2
            have hst := k125.store
            rw [hv6] at hst
            exact out_store25 rfl k126 (show fa.eval (.tmp 125) = _ from hv6) q1 (by simp [wmA]) ⟨⟨hst⟩, (Below.refl b fw).setCell (p := ⟨b, 2, none⟩) (Nat.le_refl b) _⟩
          exact K3.rel_nil
        · intro fa fw hfB hfy hff hfs hfd
          rw [hRs] at hfy
          have k126 : WF_ b p n (I ++ [(x, wDS ++ d)]) (fa.tmps.getD 126 undef) fw := hfy 12 _ rfl (K3.unkilled (by decide))
          have hBf : Below b w10 fw := (hd4.mono (by omega)).trans hfB
          have e := K3.rel_frame [115, 116, 117, 118, 119, 120, 121, 122, 123, 124, 125, 126] (by kernel_rfl) hff hfs hfd
          simp only [List.foldl] at e
          clear hfy hff hfs hfd 
          generalize fa.tmps.getD 115 undef = x115 at e
          generalize fa.tmps.getD 116 undef = x116 at e
          generalize fa.tmps.getD 117 undef = x117 at e
          generalize fa.tmps.getD 118 undef = x118 at e
          generalize fa.tmps.getD 119 undef = x119 at e
          generalize fa.tmps.getD 120 undef = x120 at e
          generalize fa.tmps.getD 121 undef = x121 at e
          generalize fa.tmps.getD 122 undef = x122 at e
          generalize fa.tmps.getD 123 undef = x123 at e
          generalize fa.tmps.getD 124 undef = x124 at e
          generalize fa.tmps.getD 125 undef = x125 at e
          generalize fa.tmps.getD 126 undef = x126 at e k126
          simp [List.setIfInBounds_toArray, List.set_cons_succ, List.set_cons_zero] at e
          subst e
          have HWMn := Lib.hid (show WM b p (n : Int) (((F.zip D).take (k + 1)).map pe) fw from by rw [hIe]; exact k126.f)
          have HBn := Lib.hid (HBz.out.trans (hBf.mono hwb))
          clear k126 hBf hfB
          go_wp2_with fail
          go_roundg (F.length - k - 1)
          case measure => omega
          case rel => exact ⟨k + 1, S2, by omega, by go_num, rfl, hS2z, HSn, HWn, HPn, HWMn, HBn⟩
end Go.Proofs.YtkmachhfibcdlaaDoor
