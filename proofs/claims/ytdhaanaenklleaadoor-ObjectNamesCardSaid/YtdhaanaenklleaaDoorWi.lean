/- Walks: Compare of both. -/
import Derived.Test.YtdhaanaenklleaaDoorWc
import Derived.Test.YtdhaanaenklleaaDoorMc
namespace Go.Proofs.YtdhaanaenklleaaDoor
set_option linter.unusedVariables false
open Go.ChangeShapes Go.WideShapes Go.ChangeAt Go.RowKit

theorem nan_any (a : ByteArray) (w : World) : Calls Tryd.prog 137 #[.string a] w fun e w' => e = .returned (.bool false) ∧ w = w' := by
  have h1 : (a.toList == a.toList) = true := by simp
  go_enter Tryd.func137, Tryd.ntmps137
  go_wp2_with fail
  go_ret
  exact ⟨rfl, rfl⟩
set_option maxRecDepth 100000 in
set_option maxHeartbeats 400000 in
theorem cmp_any (a b : ByteArray) (w : World) : Calls Tryd.prog 120 #[.string a, .string b] w fun e w' => e = .returned (.int .i64 (ord a b)) ∧ w = w' := by
  go_enter Tryd.func120, Tryd.ntmps120
  go_wp2_with fail
  refine (nan_any a _).mono ?_
  rintro e w1 ⟨rfl, rfl⟩
  go_wp2_with fail
  refine (nan_any b _).mono ?_
  rintro e w1 ⟨rfl, rfl⟩
  go_wp2_with fail
  · rename_i h
    go_ret
    exact ⟨by rw [ord_less h]; rfl, rfl⟩
  · rename_i h1 _ _ h2
    go_ret
    exact ⟨by rw [ord_more h1 h2]; rfl, rfl⟩
  · rename_i h1 h2
    go_ret
    exact ⟨by rw [ord_same h1 h2]; rfl, rfl⟩

set_option maxRecDepth 100000 in
set_option maxHeartbeats 1000000 in
theorem scmp_any (v u : Value) (a b : List ByteArray) (w : World) (hv : Strs w v a) (hu : Strs w u b) (ha : a.length ≤ 1073741825) (hb : b.length ≤ 1073741825) :
    Calls Tryd.prog 93 #[v, u] w fun e w' => e = .returned (.int .i64 (cmpL a b)) ∧ w = w' := by
  obtain ⟨p, cap, rfl, hp⟩ := strs_shape hv
  obtain ⟨q, cap2, rfl, hq⟩ := strs_shape hu
  have Hp := Lib.hid hp
  have Hq := Lib.hid hq
  obtain ⟨la, hla⟩ : ∃ la, la = a.length := ⟨_, rfl⟩
  obtain ⟨lb, hlb⟩ : ∃ lb, lb = b.length := ⟨_, rfl⟩
  rw [← hla] at Hp ha ⊢
  rw [← hlb] at Hq hb ⊢
  have Hla := Lib.hid hla
  have Hlb := Lib.hid hlb
  clear hv hu hp hq hla hlb
  go_enter Tryd.func93, Tryd.ntmps93
  go_wp2_with fail
  go_loopg [5, 6, 7, 8, 11] la (fun g _ _ _ _ iv wr => ∃ k : Nat, k + g = la ∧ k ≤ lb ∧ iv = .int .i64 k ∧ a.take k = b.take k ∧ w = wr)
  case atStart => exact ⟨0, by omega, by omega, rfl, rfl, rfl⟩
  case round =>
    obtain ⟨k, hkg, hkb, rfl, htk, rfl⟩ := hrel
    have Hat := Lib.hid (cmpL_at a b k htk)
    have Htk := Lib.hid htk
    clear htk
    by_cases hlt : k < la
    · obtain ⟨b1, off, rfl, hb1, hcap, hmax, hcell⟩ := Hp.out (by omega)
      have hc1 := hcell k hlt
      have hda := drop_getD a k (by have := Hla.out; omega)
      have hta := take_getD a k (by have := Hla.out; omega)
      unfold maxLen at hmax
      obtain ⟨x, hx⟩ : ∃ x, x = a.getD k ByteArray.empty := ⟨_, rfl⟩
      rw [← hx] at hc1 hda hta
      have Hda := Lib.hid hda
      have Hta := Lib.hid hta
      clear hx hcell hda hta
      by_cases hlt2 : k < lb
      · obtain ⟨b2, off2, rfl, hb2, hcap2, hmax2, hcell2⟩ := Hq.out (by omega)
        have hc2 := hcell2 k hlt2
        have hdb := drop_getD b k (by have := Hlb.out; omega)
        have htb := take_getD b k (by have := Hlb.out; omega)
        unfold maxLen at hmax2
        obtain ⟨y, hy⟩ : ∃ y, y = b.getD k ByteArray.empty := ⟨_, rfl⟩
        rw [← hy] at hc2 hdb htb
        have Hdb := Lib.hid hdb
        have Htb := Lib.hid htb
        have hg : ¬ (lb : Int) ≤ (k : Int) := by omega
        have HC := Lib.hid (fun w1 => cmp_any x y w1)
        clear hy hcell2 hdb htb
        by_cases ho : ord x y = 0
        · have e : x = y := (bl_so.zero x y).1 ho
          have Hn := Lib.hid (show a.take (k + 1) = b.take (k + 1) by rw [Hta.out, Htb.out, Htk.out, e])
          rw [ho] at HC
          clear ho e
          go_wp2_with fail
          refine (HC.out _).mono ?_
          rintro e w1 ⟨rfl, rfl⟩
          go_wp2_with fail
          go_roundg (gk - 1)
          case measure => omega
          case rel => exact ⟨k + 1, by omega, by omega, by go_num, Hn.out, rfl⟩
        · have Hn := Lib.hid (show cmpL a b = ord x y by rw [Hat.out, Hda.out, Hdb.out, cmpL_cons, if_neg ho])
          have ho2 : ((ord x y != 0) : Bool) = true := by rw [bne_iff_ne]; exact ho
          generalize ord x y = z at *
          go_wp2_with fail
          refine (HC.out _).mono ?_
          rintro e w1 ⟨rfl, rfl⟩
          go_wp2_with fail
          go_ret
          exact ⟨by rw [Hn.out]; rfl, rfl⟩
      · have hg : (lb : Int) ≤ (k : Int) := by omega
        have hdb : b.drop k = [] := List.drop_eq_nil_of_le (by have := Hlb.out; omega)
        have Hn := Lib.hid (show cmpL a b = 1 by rw [Hat.out, Hda.out, hdb, cmpL_right])
        clear hdb
        go_wp2_with fail
        go_ret
        exact ⟨by rw [Hn.out]; rfl, rfl⟩
    · have hk : k = la := by omega
      subst hk
      have hda : a.drop k = [] := List.drop_eq_nil_of_le (by have := Hla.out; omega)
      by_cases hlt2 : k < lb
      · have hdb := drop_getD b k (by have := Hlb.out; omega)
        have Hn := Lib.hid (show cmpL a b = -1 by rw [Hat.out, hda, hdb, cmpL_left])
        have hg : (k : Int) < (lb : Int) := by omega
        clear hda hdb
        go_wp2_with fail
        go_ret
        exact ⟨by rw [Hn.out]; rfl, rfl⟩
      · have hdb : b.drop k = [] := List.drop_eq_nil_of_le (by have := Hlb.out; omega)
        have Hn := Lib.hid (show cmpL a b = 0 by rw [Hat.out, hda, hdb, cmpL_nil])
        have hg : ¬ (k : Int) < (lb : Int) := by omega
        clear hda hdb
        go_wp2_with fail
        go_ret
        exact ⟨by rw [Hn.out]; rfl, rfl⟩

def cmpP (a b : ByteArray) : Int := cmpL (splitL a) (splitL b)
theorem splitL_len (a : ByteArray) : (splitL a).length ≤ a.size + 1 := by
  unfold splitL
  split
  · have := cnt_len (cutB 47 a); rw [cutB_cnt] at this; omega
  · simp
theorem pcmp_any (a b : ByteArray) (m : Int) (w : World) (hm : w.cell? ⟨1, 0, none⟩ = some (.int .i64 m)) (ha : a.size ≤ 1073741824) (hb : b.size ≤ 1073741824) :
    Calls Tryd.prog 63 #[.string a, .string b] w fun e w' => e = .returned (.int .i64 (cmpP a b)) ∧ Below w.heap.size w w' := by
  have h0 : 1 < w.heap.size := by
    have := World.block_lt_of_cell? w _ hm
    simpa using this
  have h1 := splitL_len a
  have h2 := splitL_len b
  have H1 := Lib.hid (psplit_any a m w ha hm)
  have H2 := Lib.hid (fun (w1 : World) (hB : Below w.heap.size w w1) => psplit_any b m w1 hb ((hB.cell (p := ⟨1, 0, none⟩) h0).trans hm))
  have He := Lib.hid (show cmpP a b = cmpL (splitL a) (splitL b) from rfl)
  generalize splitL a = x at *
  generalize splitL b = y at *
  generalize cmpP a b = r at *
  go_enter Tryd.func63, Tryd.ntmps63
  go_wp2_with fail
  refine H1.out.mono ?_
  rintro e w1 ⟨v, rfl, hv, hB⟩
  have hsv := Strs.ofRow hv
  clear hv
  go_wp2_with fail
  refine (H2.out _ hB).mono ?_
  rintro e w2 ⟨u, rfl, hu, hB2⟩
  have hsu := Strs.ofRow hu
  have hsv2 := hsv.below hB2
  replace hB := hB.trans (hB2.mono hB.size)
  clear hu hsv hB2
  go_wp2_with fail
  refine (scmp_any v u x y w2 hsv2 hsu (by omega) (by omega)).mono ?_
  rintro e w3 ⟨rfl, rfl⟩
  go_wp2_with fail
  go_ret
  exact ⟨by rw [He.out]; rfl, hB⟩

set_option maxRecDepth 100000 in
set_option maxHeartbeats 1000000 in
theorem refCmp_any (a b : ByteArray) (w : World) (ha : a.size ≤ 1073741824) (hb : b.size ≤ 1073741824) :
    Calls Tryd.prog 72 #[.string a, .string b] w fun e w' => e = .returned (.int .i64 (cmpP a b)) ∧ Below w.heap.size w w' := by
  have h1 := splitL_len a
  have h2 := splitL_len b
  have H1 := Lib.hid (rsplit_any a w ha)
  have H2 := Lib.hid (fun (w1 : World) => rsplit_any b w1 hb)
  have He := Lib.hid (show cmpP a b = cmpL (splitL a) (splitL b) from rfl)
  generalize splitL a = x at *
  generalize splitL b = y at *
  generalize cmpP a b = r at *
  go_enter Tryd.func72, Tryd.ntmps72
  go_wp2_with fail
  refine H1.out.mono ?_
  rintro e w1 ⟨v, rfl, hv, hB⟩
  have hsv := Strs.ofRow hv
  clear hv
  go_wp2_with fail
  refine (H2.out _).mono ?_
  rintro e w2 ⟨u, rfl, hu, hB2⟩
  have hsu := Strs.ofRow hu
  have hsv2 := hsv.below hB2
  replace hB := hB.trans (hB2.mono hB.size)
  clear hu hsv hB2
  obtain ⟨p, cap, rfl, hp⟩ := strs_shape hsv2
  obtain ⟨q, cap2, rfl, hq⟩ := strs_shape hsu
  have Hp := Lib.hid hp
  have Hq := Lib.hid hq
  obtain ⟨la, hla⟩ : ∃ la, la = x.length := ⟨_, rfl⟩
  obtain ⟨lb, hlb⟩ : ∃ lb, lb = y.length := ⟨_, rfl⟩
  rw [← hla] at Hp h1 ⊢
  rw [← hlb] at Hq h2 ⊢
  have Hla := Lib.hid hla
  have Hlb := Lib.hid hlb
  have hla30 : la ≤ 1073741825 := by omega
  have hlb30 : lb ≤ 1073741825 := by omega
  clear hsv2 hsu hp hq hla hlb h1 h2
  go_wp2_with fail
  go_loopg [7] (la + 1) (fun g iv wr => ∃ k : Nat, k + g = la + 1 ∧ k ≤ la ∧ k ≤ lb ∧ iv = .int .i64 k ∧ x.take k = y.take k ∧ ∃ j, wr = w2.drewN j)
  case atStart => exact ⟨0, by omega, by omega, by omega, rfl, rfl, 0, rfl⟩
  case round =>
    obtain ⟨k, hkg, hka, hkb, rfl, htk, j, rfl⟩ := hrel
    have Hat := Lib.hid (cmpL_at x y k htk)
    have Htk := Lib.hid htk
    clear htk
    by_cases hlt : k < la
    · have hltI : (k : Int) < (la : Int) := by omega
      obtain ⟨b1, off, rfl, hb1, hcap, hmax, hcell⟩ := Hp.out (by omega)
      have hc1 := hcell k hlt
      have hda := drop_getD x k (by have := Hla.out; omega)
      have hta := take_getD x k (by have := Hla.out; omega)
      unfold maxLen at hmax
      obtain ⟨c, hx⟩ : ∃ c, c = x.getD k ByteArray.empty := ⟨_, rfl⟩
      rw [← hx] at hc1 hda hta
      have Hda := Lib.hid hda
      have Hta := Lib.hid hta
      clear hx hcell hda hta
      by_cases hlt2 : k < lb
      · have hlt2I : (k : Int) < (lb : Int) := by omega
        obtain ⟨b2, off2, rfl, hb2, hcap2, hmax2, hcell2⟩ := Hq.out (by omega)
        have hc2 := hcell2 k hlt2
        have hdb := drop_getD y k (by have := Hlb.out; omega)
        have htb := take_getD y k (by have := Hlb.out; omega)
        unfold maxLen at hmax2
        obtain ⟨d, hy⟩ : ∃ d, d = y.getD k ByteArray.empty := ⟨_, rfl⟩
        rw [← hy] at hc2 hdb htb
        have Hdb := Lib.hid hdb
        have Htb := Lib.hid htb
        clear hy hcell2 hdb htb
        cases hbl : Op.bytesLess c.toList d.toList with
        | true =>
          have Hn := Lib.hid (show cmpL x y = -1 by rw [Hat.out, Hda.out, Hdb.out, cmpL_cons, ord_less hbl]; rfl)
          go_wp2_with fail
          go_quiet (fail)
          go_wp2_with fail
          go_ret
          exact ⟨by rw [He.out, Hn.out]; rfl, below_drewN (below_drewN hB _) _⟩
        | false =>
          cases heq : (!c.toList == d.toList) with
          | true =>
            have Hn := Lib.hid (show cmpL x y = 1 by rw [Hat.out, Hda.out, Hdb.out, cmpL_cons, ord_more hbl heq]; rfl)
            go_wp2_with fail
            go_quiet (fail)
            go_wp2_with fail
            go_quiet (fail)
            go_wp2_with fail
            go_ret
            exact ⟨by rw [He.out, Hn.out]; rfl, below_drewN (below_drewN (below_drewN hB _) _) _⟩
          | false =>
            have e : c = d := (bl_so.zero c d).1 (ord_same hbl heq)
            have Hn := Lib.hid (show x.take (k + 1) = y.take (k + 1) by rw [Hta.out, Htb.out, Htk.out, e])
            clear e
            go_wp2_with fail
            go_quiet (fail)
            go_wp2_with fail
            go_quiet (fail)
            go_wp2_with fail
            go_roundg (gk - 1)
            case measure => omega
            case rel => exact ⟨k + 1, by omega, by omega, by omega, by go_num, Hn.out, _, rfl⟩
      · have hlt2I : ¬ (k : Int) < (lb : Int) := by omega
        have hg1 : ¬ (la : Int) < (lb : Int) := by omega
        have hg2 : (lb : Int) < (la : Int) := by omega
        have hdb : y.drop k = [] := List.drop_eq_nil_of_le (by have := Hlb.out; omega)
        have Hn := Lib.hid (show cmpL x y = 1 by rw [Hat.out, Hda.out, hdb, cmpL_right])
        clear hdb
        go_wp2_with fail
        go_ret
        exact ⟨by rw [He.out, Hn.out]; rfl, below_drewN hB _⟩
    · have hk : k = la := by omega
      subst hk
      have hda : x.drop k = [] := List.drop_eq_nil_of_le (by have := Hla.out; omega)
      by_cases hlt2 : k < lb
      · have hdb := drop_getD y k (by have := Hlb.out; omega)
        have Hn := Lib.hid (show cmpL x y = -1 by rw [Hat.out, hda, hdb, cmpL_left])
        have hg : (k : Int) < (lb : Int) := by omega
        clear hda hdb
        go_wp2_with fail
        go_ret
        exact ⟨by rw [He.out, Hn.out]; rfl, below_drewN hB _⟩
      · have hdb : y.drop k = [] := List.drop_eq_nil_of_le (by have := Hlb.out; omega)
        have Hn := Lib.hid (show cmpL x y = 0 by rw [Hat.out, hda, hdb, cmpL_nil])
        have hg : ¬ (k : Int) < (lb : Int) := by omega
        have hg2 : ¬ (lb : Int) < (k : Int) := by omega
        clear hda hdb
        go_wp2_with fail
        go_ret
        exact ⟨by rw [He.out, Hn.out]; rfl, below_drewN hB _⟩
end Go.Proofs.YtdhaanaenklleaaDoor
