/- Walks: the statement ModfileOrder. -/
import Derived.Test.YtkmachhfibcdlaaDoorDg
namespace Go.Proofs.YtkmachhfibcdlaaDoor
set_option linter.unusedVariables false
set_option linter.unusedSimpArgs false
open Go.ChangeShapes Go.WideShapes Go.ChangeAt Go.RowKit

theorem rep_more (S x : ByteArray) : (S ++ ⟨#[114, 101, 112, 108, 97, 99, 101, 32]⟩ ++ x ++ ⟨#[32, 61, 62, 32, 46, 47, 100, 10]⟩).data.toList = S.data.toList ++ tx [lnR (pd x)] := by
  rw [tx_one, lnR_pd]
  simp only [ba_append, List.append_assoc]
theorem req_more (S x : ByteArray) : (S ++ ⟨#[114, 101, 113, 117, 105, 114, 101, 32]⟩ ++ x ++ ⟨#[32, 118, 49, 10]⟩).data.toList = S.data.toList ++ tx [lnQ x] := by
  rw [tx_one]
  simp only [ba_append, List.append_assoc]
  show _ = S.data.toList ++ ((wRequire.data.toList ++ 32 :: (x.data.toList ++ 32 :: [118, 49])) ++ [10])
  simp
theorem exc_more (T x : ByteArray) (A M C : List UInt8) (h : T.data.toList = A ++ M ++ C) : (⟨#[101, 120, 99, 108, 117, 100, 101, 32]⟩ ++ x ++ ⟨#[32, 118, 49, 10]⟩ ++ T ++ ⟨#[114, 101, 116, 114, 97, 99, 116, 32]⟩ ++ x ++ ⟨#[10]⟩).data.toList = tx [lnE x] ++ A ++ M ++ (C ++ tx [lnT x]) := by
  rw [tx_one, tx_one]
  simp only [ba_append, List.append_assoc, h]
  show _ = ((wExclude.data.toList ++ 32 :: (x.data.toList ++ 32 :: [118, 49])) ++ ([10] ++ (A ++ (M ++ (C ++ ((wRetract.data.toList ++ 32 :: x.data.toList) ++ [10]))))))
  simp
set_option maxRecDepth 100000 in
set_option maxHeartbeats 1500000 in
theorem order_main (p : ByteArray) (n : Nat) (x2 : Option Addr) (n2 c2 : Nat) (x3 : Option Addr) (n3 c3 : Nat) (F O : List ByteArray) (w : World) (hE : Env w) (hp : p.size ≤ 140737488351232) (hF : Strs w (.slice x2 n2 c2) F) (zF : ∀ s ∈ F, s.size ≤ 140737488351232) (hO : Strs w (.slice x3 n3 c3) O) (zO : ∀ s ∈ O, s.size ≤ 140737488351232) (hn9 : n ≤ 9) (h20 : F.length ≤ 20) (h21 : O.length ≤ 20) :
    Calls Tryd.prog 5 #[.string p, .int .i64 (n : Int), .slice x2 n2 c2, .slice x3 n3 c3] w fun e w' => e = .returned (.bool true) ∧ Below w.heap.size w w' := by
  obtain ⟨rfl, hqF⟩ := hF.cells
  obtain ⟨rfl, hqO⟩ := hO.cells
  have HA := Lib.hid (alive_any w hE)
  have HE := Lib.hid hE
  have HW := Lib.hid (fun w1 => word_any p w1 hp)
  have HzF := Lib.hid zF
  have HzO := Lib.hid zO
  have HqF := Lib.hid hqF
  have HqO := Lib.hid hqO
  clear hE zF zO hqF hqO hF hO
  have h20I : ¬ (20 : Int) < (F.length : Int) := by omega
  have h21I : ¬ (20 : Int) < (O.length : Int) := by omega
  have hn0I : ¬ (n : Int) < 0 := by omega
  have hn9I : ¬ (9 : Int) < (n : Int) := by omega
  go_enter Tryd.func5, Tryd.ntmps5
  go_wp2_with fail
  refine HA.out.mono ?_
  rintro r w1 ⟨rfl, hB⟩
  have HB := Lib.hid hB
  clear hB HA
  go_wp2_with fail
  refine (HW.out _).mono ?_
  rintro r w2 ⟨⟨b, rfl, hb⟩, rfl⟩
  cases b with
  | false =>
    go_wp2_with fail
    go_ret
    exact ⟨rfl, HB.out⟩
  | true =>
  have HP := Lib.hid (hb.1 rfl)
  have hpz : p.size ≤ 100 := HP.out.2.2
  clear hb HW
  have hcv := conv_digit w1 n hn9
  obtain ⟨dg, hdg⟩ : ∃ dg, dg = mkB [UInt8.ofNat (48 + n)] := ⟨_, rfl⟩
  rw [← hdg] at hcv
  have hdz : dg.size = 1 := by rw [hdg, mkB_size]; rfl
  have HD := Lib.hid hdg
  clear hdg
  have HB2 := Lib.hid (HB.out.trans (((Below.refl w1.heap.size w1).alloc (Nat.le_refl _) (.cells #[.int .u8 (48 + (n : Int))] 5)).mono HB.out.size))
  go_upto_region 7 with fail
  clear hcv
  generalize w1.alloc (.cells #[.int .u8 (48 + (n : Int))] 5) = w2 at *
  obtain ⟨S0, hS0⟩ : ∃ S0 : ByteArray, S0 = ⟨#[109, 111, 100, 117, 108, 101, 32]⟩ ++ p ++ ⟨#[10, 103, 111, 32, 49, 46]⟩ ++ dg ++ ⟨#[10]⟩ := ⟨_, rfl⟩
  rw [← hS0]
  have HS0 := Lib.hid (show S0.data.toList = tx [lnM p, lnG n] from by
    rw [hS0, tx_cons, tx_one, HD.out]
    simp only [ba_append, mkB_toList]
    show _ = (wModule.data.toList ++ 32 :: p.data.toList) ++ 10 :: ((wGo.data.toList ++ 32 :: (lvB n).data.toList) ++ [10])
    simp [lvB])
  have hS0z : S0.size ≤ 200 := by
    rw [hS0]
    simp only [ByteArray.size_append]
    have e1 : (⟨#[109, 111, 100, 117, 108, 101, 32]⟩ : ByteArray).size = 7 := rfl
    have e2 : (⟨#[10, 103, 111, 32, 49, 46]⟩ : ByteArray).size = 6 := rfl
    have e3 : (⟨#[10]⟩ : ByteArray).size = 1 := rfl
    omega
  clear hS0
  go_wp2_with fail
  go_loopg [10, 11, 12, 13, 14, 55] F.length (fun g sv tv _ _ _ iv wr => ∃ (k : Nat) (S T : ByteArray), k + g = F.length ∧ iv = .int .i64 k ∧ sv = .string S ∧ tv = .string T ∧ S.size ≤ 200 + k * 200 ∧ T.size ≤ k * 200 ∧ Hid (S.data.toList = tx [lnM p, lnG n] ++ tx ((F.take k).map (fun x => lnR (pd x)))) ∧ Hid (T.data.toList = tx ((F.take k).map (fun x => lnR (pd x)))) ∧ Hid (∀ x ∈ F.take k, wordP x) ∧ Hid ((F.take k).Pairwise (fun a b => a ≠ b)) ∧ wr = w2)
  case atStart => exact ⟨0, S0, ⟨#[]⟩, by omega, rfl, rfl, rfl, by omega, Nat.zero_le _, Lib.hid (by rw [HS0.out]; simp [tx]), Lib.hid (by simp [tx]), Lib.hid (by simp), Lib.hid (by simp), rfl⟩
  case round =>
    obtain ⟨k, S, T, hkg, rfl, rfl, rfl, hSz, hTz, HS, HT, HWs, HPw, rfl⟩ := hrel
    by_cases hk : k < F.length
    case neg =>
      have hkI : ¬ (k : Int) < (F.length : Int) := by omega
      have HS1 := Lib.hid (show S.data.toList = tx [lnM p, lnG n] ++ tx (F.map (fun x => lnR (pd x))) by rw [HS.out, List.take_of_length_le (by omega)])
      have HT1 := Lib.hid (show T.data.toList = tx (F.map (fun x => lnR (pd x))) by rw [HT.out, List.take_of_length_le (by omega)])
      have HWF := Lib.hid (show ∀ x ∈ F, wordP x by have := HWs.out; rwa [List.take_of_length_le (by omega)] at this)
      have HPF := Lib.hid (show F.Pairwise (fun a b => a ≠ b) by have := HPw.out; rwa [List.take_of_length_le (by omega)] at this)
      have hSz1 : S.size ≤ 4200 := by omega
      have hTz1 : T.size ≤ 4000 := by omega
      clear HS HT HWs HPw hSz hTz HS0 hS0z
      go_wp2_with fail
      clear hkg hk
      go_loopg [10, 11, 16, 87] O.length (fun g sv tv _ iv wz => ∃ (q : Nat) (S2 T2 : ByteArray), q + g = O.length ∧ iv = .int .i64 q ∧ sv = .string S2 ∧ tv = .string T2 ∧ S2.size ≤ 4200 + q * 200 ∧ T2.size ≤ 4000 + q * 400 ∧ Hid (S2.data.toList = tx [lnM p, lnG n] ++ tx (F.map (fun x => lnR (pd x))) ++ tx ((O.take q).map lnQ)) ∧ Hid (T2.data.toList = tx ((O.take q).reverse.map lnE) ++ tx (F.map (fun x => lnR (pd x))) ++ tx ((O.take q).map lnT)) ∧ Hid (∀ x ∈ O.take q, wordP x) ∧ wz = wr)
      case atStart => exact ⟨0, S, T, by omega, rfl, rfl, rfl, by omega, by omega, Lib.hid (by rw [HS1.out]; simp [tx]), Lib.hid (by rw [HT1.out]; simp [tx]), Lib.hid (by simp), rfl⟩
      case round =>
        obtain ⟨q, S2, T2, hqg, rfl, rfl, rfl, hS2, hT2, HS2, HT2, HWo, rfl⟩ := hrel
        by_cases hq : q < O.length
        case neg =>
          have hqI : ¬ (q : Int) < (O.length : Int) := by omega
          have HWO := Lib.hid (show ∀ x ∈ O, wordP x by have := HWo.out; rwa [List.take_of_length_le (by omega)] at this)
          obtain ⟨B, hBe⟩ : ∃ B : ByteArray, B = T2 ++ ⟨#[103, 111, 32, 49, 46]⟩ ++ dg ++ ⟨#[10, 109, 111, 100, 117, 108, 101, 32]⟩ ++ p := ⟨_, rfl⟩
          have hBz : B.size ≤ 20000 := by
            rw [hBe]
            simp only [ByteArray.size_append]
            have e1 : (⟨#[103, 111, 32, 49, 46]⟩ : ByteArray).size = 5 := rfl
            have e2 : (⟨#[10, 109, 111, 100, 117, 108, 101, 32]⟩ : ByteArray).size = 8 := rfl
            omega
          have hOM := order_mod p n (F.map pd) O HP.out hn9 (fun x hx => by
            obtain ⟨y, hy, rfl⟩ := List.mem_map.1 hx
            exact ⟨HWF.out y hy, rfl, show Piece [46, 47, 100] from piece_lit (by decide) (by decide) (by decide)⟩) (fun x hx => by
            obtain ⟨y, hy, rfl⟩ := List.mem_map.1 hx
            show (10 : UInt8) ∉ [46, 47, 100]
            decide) (by
            rw [List.pairwise_map]
            exact HPF.out) HWO.out
          have hS2e : S2 = mkB (tx (lnM p :: lnG n :: ((F.map pd).map lnR ++ O.map lnQ))) := by
            rw [← mkB_data S2, HS2.out, List.take_of_length_le (by omega), ← tx_app, ← tx_app, List.map_map]
            rfl
          have hB2e : B = mkB (tx (O.reverse.map lnE ++ ((F.map pd).map lnR ++ (O.map lnT ++ [lnG n]))) ++ lnM p) := by
            rw [← mkB_data B, hBe]
            congr 1
            simp only [ba_append, HT2.out]
            rw [List.take_of_length_le (by omega), tx_app, tx_app, tx_app, List.map_map, tx_one, HD.out, mkB_toList]
            show tx (O.reverse.map lnE) ++ tx (F.map (fun x => lnR (pd x))) ++ tx (O.map lnT) ++ [103, 111, 32, 49, 46] ++ [UInt8.ofNat (48 + n)] ++ [10, 109, 111, 100, 117, 108, 101, 32] ++ p.data.toList = tx (O.reverse.map lnE) ++ (tx (F.map (fun x => lnR (pd x))) ++ (tx (O.map lnT) ++ ((wGo.data.toList ++ 32 :: [49, 46, UInt8.ofNat (48 + n)]) ++ [10]))) ++ (wModule.data.toList ++ 32 :: p.data.toList)
            simp
          rw [← hS2e, ← hB2e] at hOM
          have HP1 := Lib.hid (parse_any S2 wr (HE.out.below HB2.out) (by omega))
          have HP2 := Lib.hid (fun w1 (hB : Below w.heap.size w w1) => parse_any B w1 (HE.out.below hB) (by omega))
          rw [hOM.1] at HP1
          rw [hOM.2] at HP2
          have HBe := Lib.hid hBe
          have HXs := Lib.hid (show (∀ t ∈ F.map pd, RpB t) ∧ (F.map pd).length ≤ 16777216 from ⟨fun t ht => by
            obtain ⟨y, hy, rfl⟩ := List.mem_map.1 ht
            have := (HWF.out y hy).2.2
            exact ⟨by show y.size ≤ _; omega, by show (3 : Nat) ≤ _; omega⟩, by rw [List.length_map]; omega⟩)
          generalize F.map pd = X at *
          clear hS2e hB2e hOM hBe HWF HPF HS1 HT1 HS2 HT2 HWo HWO HD HzF HzO HqF HqO
          have kp : (p.toList == p.toList) = true := by simp
          have kn : ((n : Int) == (n : Int)) = true := by simp
          go_wp2_with fail
          refine HP1.out.mono ?_
          rintro r w4 ⟨v1, rfl, ⟨rv1, rfl, hr1⟩, hB4⟩
          obtain ⟨p4, c4, rfl, _⟩ := lat_shape hr1
          have HB4 := Lib.hid (HB2.out.trans (hB4.mono HB2.out.size))
          have Hr1 := Lib.hid hr1
          clear hB4 hr1 HP1
          dsimp only at Hr1
          go_wp2_with fail
          rw [← HBe.out]
          refine (HP2.out _ HB4.out).mono ?_
          rintro r w5 ⟨v2, rfl, ⟨rv2, rfl, hr2⟩, hB5⟩
          obtain ⟨p5, c5, rfl, _⟩ := lat_shape hr2
          have HB5 := Lib.hid (HB4.out.trans (hB5.mono HB4.out.size))
          have Hr3 := Lib.hid (Hr1.out.below hB5)
          have Hr2 := Lib.hid hr2
          clear hB5 hr2 HP2 Hr1
          dsimp only at Hr2
          go_upto_region 29 with fail
          have hn1 := heap_alloc_new w5 (.cells #[.string p, .int .i64 (n : Int), .slice p4 X.length c4, .int .i64 0] 27)
          have hsz1 : (w5.alloc (.cells #[.string p, .int .i64 (n : Int), .slice p4 X.length c4, .int .i64 0] 27)).heap.size = w5.heap.size + 1 := by simp
          have hn1' := (heap_alloc_old (w5.alloc (.cells #[.string p, .int .i64 (n : Int), .slice p4 X.length c4, .int .i64 0] 27)) (.cells #[.string p, .int .i64 (n : Int), .slice p5 X.length c5, .int .i64 0] 27) (show w5.heap.size < _ from by rw [hsz1]; omega)).trans hn1
          have hn2 := new2 w5 (.cells #[.string p, .int .i64 (n : Int), .slice p4 X.length c4, .int .i64 0] 27) (.cells #[.string p, .int .i64 (n : Int), .slice p5 X.length c5, .int .i64 0] 27)
          have HBa := Lib.hid (show Below w5.heap.size w5 ((w5.alloc (.cells #[.string p, .int .i64 (n : Int), .slice p4 X.length c4, .int .i64 0] 27)).alloc (.cells #[.string p, .int .i64 (n : Int), .slice p5 X.length c5, .int .i64 0] 27)) from ((Below.refl _ _).alloc (Nat.le_refl _) _).alloc (by simp) _)
          have HB6 := Lib.hid (HB5.out.trans (HBa.out.mono HB5.out.size))
          clear hn1 hsz1
          generalize (w5.alloc (.cells #[.string p, .int .i64 (n : Int), .slice p4 X.length c4, .int .i64 0] 27)).alloc (.cells #[.string p, .int .i64 (n : Int), .slice p5 X.length c5, .int .i64 0] 27) = w6 at *
          have HS := Lib.hid (show Calls Tryd.prog 9 #[.agg #[.string p, .int .i64 (n : Int), .slice p4 X.length c4, .int .i64 0], .agg #[.string p, .int .i64 (n : Int), .slice p5 X.length c5, .int .i64 0]] w6 (fun e w' => e = .returned (.bool true) ∧ Below w6.heap.size w6 w') from
            same_true ⟨p, (n : Int), X, 0⟩ (.agg #[.string p, .int .i64 (n : Int), .slice p4 X.length c4, .int .i64 0]) (.agg #[.string p, .int .i64 (n : Int), .slice p5 X.length c5, .int .i64 0]) w6 ⟨_, rfl, Hr3.out.below HBa.out⟩ ⟨_, rfl, Hr2.out.below HBa.out⟩ HXs.out.1 HXs.out.2)
          have c0 := block_cell hn1' 0
          have c1 := block_cell hn1' 1
          have c2 := block_cell hn1' 2
          have c3 := block_cell hn1' 3
          have d0 := block_cell hn2 0
          have d1 := block_cell hn2 1
          have d2 := block_cell hn2 2
          have d3 := block_cell hn2 3
          clear hn1' hn2
          go_wp2_with fail
          refine HS.out.mono ?_
          rintro r w7 ⟨rfl, hB7⟩
          have HB7 := Lib.hid (HB6.out.trans (hB7.mono HB6.out.size))
          clear hB7
          go_wp2_with fail
          go_ret
          exact ⟨rfl, HB7.out⟩
        have hqI : (q : Int) < (O.length : Int) := by omega
        obtain ⟨_, _, g1, o1, rfl, hg1, hcl⟩ := HqO.out (by omega)
        have hc := (HB2.out.cell (p := ⟨g1, o1 + q, none⟩) hg1).trans (hcl q hq)
        have HX := Lib.hid (fun w1 => word_any (O[q]'hq) w1 (HzO.out _ (List.getElem_mem hq)))
        have HF := Lib.hid (show O[q]? = some (O[q]'hq) from List.getElem?_eq_getElem hq)
        clear hcl
        generalize O[q]'hq = x at *
        go_wp2_with fail
        refine (HX.out _).mono ?_
        rintro r w3 ⟨⟨b, rfl, hb⟩, rfl⟩
        cases b with
        | false =>
          go_wp2_with fail
          go_ret
          exact ⟨rfl, HB2.out⟩
        | true =>
        have HXw := Lib.hid (hb.1 rfl)
        have hxz : x.size ≤ 100 := HXw.out.2.2
        clear hb HX
        go_wp2_with fail
        go_roundg (gk - 1)
        case measure => omega
        case rel =>
          have e : O.take (q + 1) = O.take q ++ [x] := by rw [List.take_add_one, HF.out]; rfl
          refine ⟨q + 1, _, _, by omega, by go_num, rfl, rfl, ?_, ?_, Lib.hid ?_, Lib.hid ?_, Lib.hid ?_, rfl⟩
          · simp only [ByteArray.size_append]
            have e1 : (⟨#[114, 101, 113, 117, 105, 114, 101, 32]⟩ : ByteArray).size = 8 := rfl
            have e2 : (⟨#[32, 118, 49, 10]⟩ : ByteArray).size = 4 := rfl
            omega
          · simp only [ByteArray.size_append]
            have e1 : (⟨#[101, 120, 99, 108, 117, 100, 101, 32]⟩ : ByteArray).size = 8 := rfl
            have e2 : (⟨#[32, 118, 49, 10]⟩ : ByteArray).size = 4 := rfl
            have e3 : (⟨#[114, 101, 116, 114, 97, 99, 116, 32]⟩ : ByteArray).size = 8 := rfl
            have e4 : (⟨#[10]⟩ : ByteArray).size = 1 := rfl
            omega
          · rw [e, List.map_append, tx_app, ← List.append_assoc, ← HS2.out]
            exact req_more S2 x
          · rw [e, List.map_append, tx_app, List.reverse_append, List.map_append, tx_app]
            exact exc_more T2 x _ _ _ HT2.out
          · rw [e]
            intro y hy
            rcases List.mem_append.1 hy with hy | hy
            · exact HWo.out y hy
            · rw [List.mem_singleton.1 hy]; exact HXw.out
    have hkI : (k : Int) < (F.length : Int) := by omega
    obtain ⟨_, _, g1, o1, rfl, hg1, hcl⟩ := HqF.out (by omega)
    have HC := Lib.hid (fun i h => (HB2.out.cell (p := ⟨g1, o1 + i, none⟩) hg1).trans (hcl i h))
    have hc := HC.out k hk
    have HX := Lib.hid (fun w1 => word_any (F[k]'hk) w1 (HzF.out _ (List.getElem_mem hk)))
    have HF := Lib.hid (show F[k]? = some (F[k]'hk) from List.getElem?_eq_getElem hk)
    clear hcl
    generalize F[k]'hk = x at *
    go_wp2_with fail
    refine (HX.out _).mono ?_
    rintro r w3 ⟨⟨b, rfl, hb⟩, rfl⟩
    cases b with
    | false =>
      go_wp2_with fail
      go_ret
      exact ⟨rfl, HB2.out⟩
    | true =>
    have HXw := Lib.hid (hb.1 rfl)
    have hxz : x.size ≤ 100 := HXw.out.2.2
    clear hb HX
    go_wp2_with fail
    go_loopg [14] k (fun g jv wz => ∃ j : Nat, j + g = k ∧ jv = .int .i64 j ∧ Hid (∀ i, i < j → F[i]? ≠ some x) ∧ wz = wr)
    case atStart => exact ⟨0, by omega, rfl, Lib.hid (fun i h => absurd h (Nat.not_lt_zero _)), rfl⟩
    case round =>
      obtain ⟨j, hjg, rfl, HJ, rfl⟩ := hrel
      by_cases hj : j < k
      · have hjI : (j : Int) < (k : Int) := by omega
        have hjF : j < F.length := by omega
        have hjFI : (j : Int) < (F.length : Int) := by omega
        have hcj := HC.out j hjF
        have HFj := Lib.hid (show F[j]? = some (F[j]'hjF) from List.getElem?_eq_getElem hjF)
        generalize F[j]'hjF = y at *
        have ke := str_eqb y x
        by_cases hyx : y = x
        · rw [decide_eq_true hyx] at ke
          clear hyx
          go_wp2_with fail
          go_ret
          exact ⟨rfl, HB2.out⟩
        · rw [decide_eq_false hyx] at ke
          have HY := Lib.hid hyx
          clear hyx
          go_wp2_with fail
          go_roundg (gk - 1)
          case measure => omega
          case rel =>
            refine ⟨j + 1, by omega, by go_num, Lib.hid (fun i hi => ?_), rfl⟩
            by_cases he : i = j
            · rw [he, HFj.out]
              intro e
              injection e with e
              exact HY.out e
            · exact HJ.out i (by omega)
      have hjI : ¬ (j : Int) < (k : Int) := by omega
      go_wp2_with fail
      go_roundg (F.length - k - 1)
      case measure => omega
      case rel =>
        have e : F.take (k + 1) = F.take k ++ [x] := by rw [List.take_add_one, HF.out]; rfl
        refine ⟨k + 1, _, _, by omega, by go_num, rfl, rfl, ?_, ?_, Lib.hid ?_, Lib.hid ?_, Lib.hid ?_, Lib.hid ?_, rfl⟩
        · simp only [ByteArray.size_append]
          have e1 : (⟨#[114, 101, 112, 108, 97, 99, 101, 32]⟩ : ByteArray).size = 8 := rfl
          have e2 : (⟨#[32, 61, 62, 32, 46, 47, 100, 10]⟩ : ByteArray).size = 8 := rfl
          omega
        · simp only [ByteArray.size_append]
          have e1 : (⟨#[114, 101, 112, 108, 97, 99, 101, 32]⟩ : ByteArray).size = 8 := rfl
          have e2 : (⟨#[32, 61, 62, 32, 46, 47, 100, 10]⟩ : ByteArray).size = 8 := rfl
          omega
        · rw [e, List.map_append, tx_app, ← List.append_assoc, ← HS.out]
          exact rep_more S x
        · rw [e, List.map_append, tx_app, ← HT.out]
          exact rep_more T x
        · rw [e]
          intro y hy
          rcases List.mem_append.1 hy with hy | hy
          · exact HWs.out y hy
          · rw [List.mem_singleton.1 hy]; exact HXw.out
        · rw [e, List.pairwise_append]
          refine ⟨HPw.out, List.pairwise_singleton _ _, fun a ha b hb => ?_⟩
          rw [List.mem_singleton.1 hb]
          obtain ⟨i, hi, he⟩ := List.mem_iff_getElem.1 ha
          have hik : i < k := by rw [List.length_take] at hi; omega
          have := HJ.out i (by omega)
          intro e2
          apply this
          rw [List.getElem_take] at he
          rw [List.getElem?_eq_getElem (by omega), he, e2]
end Go.Proofs.YtkmachhfibcdlaaDoor
