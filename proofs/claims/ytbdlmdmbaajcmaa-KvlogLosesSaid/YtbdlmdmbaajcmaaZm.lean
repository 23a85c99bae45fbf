/- The statement KvlogOrders. -/
import Derived.Test.YtbdlmdmbaajcmaaZl
namespace Go.Proofs.Ytbdlmdmbaajcmaa
set_option linter.unusedVariables false
set_option linter.unusedSimpArgs false
open Go.ChangeShapes Go.WideShapes Go.ChangeAt Go.RowKit

theorem Sta.more {B : Nat} {r : Int} {b d : Nat} {m : Int} {L : List En} {n n' T T' : Nat} {w : World} (k : Sta B r b d m L n T w) (hn : n ≤ n') (hT : T ≤ T') : Sta B r b d m L n' T' w := by
  obtain ⟨TD, TS, h, A, k1, k2, k3, k4, k5⟩ := k.s
  exact ⟨TD, TS, h, A, k1, k2, k3.more hn, Nat.le_trans k4 hT, k5⟩
theorem getL_ne (L : List En) (k v : ByteArray) (h : getL L k = (v, true)) : 1 ≤ L.length := by
  unfold getL at h
  cases hw : whereL L k with
  | none => rw [hw] at h; injection h with _ h; cases h
  | some i => obtain ⟨hi, _⟩ := whereL_lt hw; omega
set_option maxRecDepth 100000 in
set_option maxHeartbeats 8000000 in
theorem orders_walk (m : Int) (x1 : Option Addr) (n1 c1 : Nat) (x2 : Option Addr) (n2 c2 : Nat) (K V : List ByteArray) (w : World) (hK : Strs w (.slice x1 n1 c1) K) (zK : ∀ s ∈ K, s.size ≤ 140737488351232) (lK : K.length ≤ 9223372036854775807) (hV : Strs w (.slice x2 n2 c2) V) (zV : ∀ s ∈ V, s.size ≤ 140737488351232) (lV : V.length ≤ 9223372036854775807) :
    Calls Try.prog 8 #[.int .i64 m, .slice x1 n1 c1, .slice x2 n2 c2] w fun e w' => e = .returned (.bool true) ∧ Below w.heap.size w w' := by
  obtain ⟨rfl, hqK⟩ := strs_cells hK
  obtain ⟨rfl, hqV⟩ := strs_cells hV
  have HA := Lib.hid (alive_any w)
  have HzK := Lib.hid zK
  have HzV := Lib.hid zV
  have HqK := Lib.hid hqK
  have HqV := Lib.hid hqV
  clear zK zV hqK hqV hK hV
  by_cases m1 : m < 1
  · clear lK lV
    go_enter Try.func8, Try.ntmps8
    go_wp2_with fail
    refine HA.out.mono ?_
    rintro r w1 ⟨rfl, hB⟩
    have HB := Lib.hid hB
    clear hB
    go_wp2_with fail
    go_ret
    exact ⟨rfl, HB.out⟩
  by_cases m2 : 100 < m
  · clear lK lV
    go_enter Try.func8, Try.ntmps8
    go_wp2_with fail
    refine HA.out.mono ?_
    rintro r w1 ⟨rfl, hB⟩
    have HB := Lib.hid hB
    clear hB
    go_wp2_with fail
    go_ret
    exact ⟨rfl, HB.out⟩
  by_cases h60 : 60 < K.length
  · have h60I : (60 : Int) < (K.length : Int) := by omega
    go_enter Try.func8, Try.ntmps8
    go_wp2_with fail
    refine HA.out.mono ?_
    rintro r w1 ⟨rfl, hB⟩
    have HB := Lib.hid hB
    clear hB
    go_wp2_with fail
    go_ret
    exact ⟨rfl, HB.out⟩
  have h60I : ¬ (60 : Int) < (K.length : Int) := by omega
  by_cases hVK : V.length < K.length
  · have hVKI : (V.length : Int) < (K.length : Int) := by omega
    go_enter Try.func8, Try.ntmps8
    go_wp2_with fail
    refine HA.out.mono ?_
    rintro r w1 ⟨rfl, hB⟩
    have HB := Lib.hid hB
    clear hB
    go_wp2_with fail
    go_ret
    exact ⟨rfl, HB.out⟩
  have hVKb : decide (V.length < K.length) = false := decide_eq_false hVK
  have hm : 1 ≤ m ∧ m ≤ 4096 := by omega
  go_enter Try.func8, Try.ntmps8
  go_wp2_with fail
  refine HA.out.mono ?_
  rintro r w1 ⟨rfl, hB⟩
  have HB := Lib.hid hB
  have HN := Lib.hid (cNew 1048576 w1)
  clear hB HA
  go_wp2_with fail
  refine HN.out.mono ?_
  rintro e w2 ⟨rfl, hd, hB⟩
  have HB2 := Lib.hid hB
  have HO := Lib.hid (start_sta (by decide) (by decide) hd hB.size m hm)
  unfold kN at HO
  clear hd hB HN
  go_wp2_with fail
  refine HO.out.mono ?_
  rintro e w3 ⟨b, rfl, hs, hB⟩
  have HB3 := Lib.hid (HB2.out.trans hB)
  have HS0 := Lib.hid hs
  have hws := HB.out.size
  clear hs hB HO HB2
  generalize w1.heap.size + 1 = d at *
  go_wp2_with fail
  go_loopg [7, 10, 11, 12, 13, 14, 45] K.length (fun g nv _ _ _ _ _ iv wr => ∃ (j nn : Nat) (L : List En), j + g = K.length ∧ iv = .int .i64 j ∧ nv = .int .i64 nn ∧ nn ≤ 4096 ∧ (L.length : Int) ≤ m ∧ Hid (∀ e ∈ L, e.1.size ≤ 4096) ∧ Hid (Sta w1.heap.size 1048576 b d m L j (j * 12400) wr) ∧ Hid (Below w1.heap.size w1 wr))
  case atStart => exact ⟨0, 0, [], by omega, rfl, rfl, by omega, by simp; omega, Lib.hid (by simp), HS0, HB3⟩
  case round =>
    obtain ⟨j, nn, L, hjg, rfl, rfl, hnn, hLm, HLk, HS, HBr⟩ := hrel
    by_cases hj : j < K.length
    case neg =>
      have hjI : ¬ (j : Int) < (K.length : Int) := by omega
      have HE := Lib.hid (show Below w.heap.size w wr from HB.out.trans (HBr.out.mono hws))
      go_wp2_with fail
      go_ret
      exact ⟨rfl, HE.out⟩
    have hjI : (j : Int) < (K.length : Int) := by omega
    have hjV : j < V.length := by omega
    have hjVI : (j : Int) < (V.length : Int) := by omega
    obtain ⟨_, _, g1, o1, rfl, hg1, hclK⟩ := HqK.out (by omega)
    obtain ⟨_, _, g2, o2, rfl, hg2, hclV⟩ := HqV.out (by omega)
    have HBw := Lib.hid (show Below w.heap.size w wr from HB.out.trans (HBr.out.mono hws))
    have hck := (HBw.out.cell (p := ⟨g1, o1 + j, none⟩) hg1).trans (hclK j hj)
    have HcV := Lib.hid (show ∀ w', Below w.heap.size w w' → w'.cell? ⟨g2, o2 + j, none⟩ = some (.string V[j]) from fun w' h => (h.cell (p := ⟨g2, o2 + j, none⟩) hg2).trans (hclV j hjV))
    have hcv := HcV.out wr HBw.out
    have hks : (K[j]'hj).size ≤ 140737488351232 := HzK.out _ (List.getElem_mem hj)
    have hvs : (V[j]'hjV).size ≤ 140737488351232 := HzV.out _ (List.getElem_mem hjV)
    clear hclK hclV
    generalize K[j]'hj = k at *
    generalize V[j]'hjV = v at *
    by_cases hbig : 4096 < nn + (k.size + v.size)
    · have hbI : (4096 : Int) < (nn : Int) + ((k.size : Int) + (v.size : Int)) := by omega
      go_wp2_with fail
      go_ret
      exact ⟨rfl, HBw.out⟩
    have hbI : ¬ (4096 : Int) < (nn : Int) + ((k.size : Int) + (v.size : Int)) := by omega
    have hL8 : L.length ≤ 8192 := by omega
    have HGe := Lib.hid (get_sta HS.out hL8 k)
    have HPu := Lib.hid (fun (w4 : World) (hB : Below wr.heap.size wr w4) => put_sta (HS.out.below hB) (by have := HBr.out.size; have := hB.size; omega) 4096 k v HLk.out (by omega) hm hLm (by omega) (by omega) (by omega) (by omega))
    obtain ⟨L2, hL2⟩ : ∃ L2, L2 = (if getL L k = (v, true) then L else putL L m k v) := ⟨_, rfl⟩
    rw [← hL2] at HPu
    have hL2l : (L2.length : Int) ≤ m ∧ 1 ≤ L2.length := by
      rw [hL2]
      split
      · rename_i hg; exact ⟨hLm, getL_ne L k v hg⟩
      · exact putL_len L m k v hLm hm.1
    have HL2k := Lib.hid (show ∀ e ∈ L2, e.1.size ≤ 4096 from fun e he => by
      rw [hL2] at he
      split at he
      · exact HLk.out e he
      · rcases putL_mem he with he | rfl
        · exact HLk.out e he
        · show k.size ≤ 4096; omega)
    have HL2 := Lib.hid hL2
    have hL28 : L2.length ≤ 8192 := by omega
    obtain ⟨old, is, hgo⟩ : ∃ old is, getL L k = (old, is) := ⟨_, _, rfl⟩
    rw [hgo] at HGe
    have Hgo := Lib.hid hgo
    dsimp only at HGe
    clear hL2 hgo
    go_wp2_with fail
    refine HGe.out.mono ?_
    rintro e w4 ⟨rfl, hB⟩
    have hcv4 := HcV.out w4 (HBw.out.trans (hB.mono HBw.out.size))
    have HP := Lib.hid (HPu.out w4 hB)
    have HB4 := Lib.hid (show Below w1.heap.size w1 w4 from HBr.out.trans (hB.mono HBr.out.size))
    clear hB HGe HPu
    go_wp2_with fail
    refine HP.out.mono ?_
    rintro e w5 ⟨rfl, hs, hB⟩
    have HB50 := Lib.hid (show Below w1.heap.size w1 w5 from HB4.out.trans hB)
    have HS5 := Lib.hid hs
    have HKe := Lib.hid (keys_sta hs hL28)
    clear hs hB HP HB4
    go_wp2_with fail
    refine HKe.out.mono ?_
    rintro e w6 ⟨u, rfl, hown, hB⟩
    have HB5 := Lib.hid (show Below w1.heap.size w1 w6 from HB50.out.trans (hB.mono HB50.out.size))
    have HS6 := Lib.hid (HS5.out.below hB)
    have hcv6 := HcV.out w6 (HB.out.trans (HB5.out.mono hws))
    obtain ⟨q, hq⟩ : ∃ q, (L2.map (·.1)).length = q + 1 := ⟨(L2.map (·.1)).length - 1, by rw [List.length_map]; omega⟩
    have hql : q + 1 = L2.length := by rw [← hq, List.length_map]
    obtain ⟨_, hcells⟩ := parts_cells hown
    obtain ⟨g5, c5, rfl, hg0, hg5, hc5, hm5, hcell⟩ := hcells (by omega)
    have Hcell := Lib.hid hcell
    rw [hq] at hc5 ⊢
    have hqm : ¬ m < (q : Int) + 1 := by omega
    have hq0 : ((q : Int) + 1 == 0) = false := beq_eq_false_iff_ne.2 (by omega)
    have hqb : q ≤ 8192 := by omega
    have Hq := Lib.hid hq
    have HL2l := Lib.hid hL2l
    clear hcells hown hB HKe hcell hcv hck hcv4 HB50 HS5 hq hql hL2l hL28
    by_cases hsame : old = v ∧ is = true
    · obtain ⟨rfl, rfl⟩ := hsame
      have kv : (old.toList == old.toList) = true := by simp
      have kvn := ne_of_eqb kv
      go_wp2_with fail
      go_roundg (gk - 1)
      case measure => omega
      case rel => exact ⟨j + 1, nn + (k.size + old.size), L2, by omega, by go_num, by go_num, by omega, HL2l.out.1, HL2k, Lib.hid (HS6.out.more (Nat.le_refl _) (by omega)), HB5⟩
    have hlast : w6.cell? ⟨g5, q, none⟩ = some (.string k) := by
      have h1 := Hcell.out q (by rw [Hq.out]; omega)
      rw [h1]
      congr 2
      have h2 : L2 = putL L m k v := by
        rw [HL2.out, if_neg (by rw [Hgo.out]; intro e; injection e with e1 e2; exact hsame ⟨e1, e2⟩)]
      have h3 := putL_last L m k v
      rw [← h2, List.getLast?_eq_getElem?, Hq.out, Nat.add_sub_cancel, List.getElem?_eq_getElem (by rw [Hq.out]; omega)] at h3
      injection h3
    have kk : (k.toList == k.toList) = true := by simp
    have kkn := ne_of_eqb kk
    clear Hcell HL2
    cases is with
    | false =>
      clear hsame
      go_wp2_with fail
      go_roundg (gk - 1)
      case measure => omega
      case rel => exact ⟨j + 1, nn + (k.size + v.size), L2, by omega, by go_num, by go_num, by omega, HL2l.out.1, HL2k, Lib.hid (HS6.out.more (Nat.le_refl _) (by omega)), HB5⟩
    | true =>
      have ko := str_eqb old v
      rw [decide_eq_false (fun e => hsame ⟨e, rfl⟩)] at ko
      have kon := ne_of_eqb ko
      clear hsame
      go_wp2_with fail
      go_roundg (gk - 1)
      case measure => omega
      case rel => exact ⟨j + 1, nn + (k.size + v.size), L2, by omega, by go_num, by go_num, by omega, HL2l.out.1, HL2k, Lib.hid (HS6.out.more (Nat.le_refl _) (by omega)), HB5⟩
end Go.Proofs.Ytbdlmdmbaajcmaa
