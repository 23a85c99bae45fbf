/- Plain: texts are cut at a byte; Walks: texts are cut; words; whether a list has one; Walks: bad, Split of both, whether a list has a bad part, Good of both; Walks: Compare of both; Plain lemmas of numbers and lists of bytes for package code: no walk stands here; Walks: the document's number, a part, two lists held against each other; Walks: the document's Join; Walks: a tree's bytes, by the code and by the document; Walks: two trees held against each other; a digest of 32 bytes; Walks: the document's digest; Walks: the names of things, by the code and by the document; The document's store: Put. -/
import Derived.Test.YtdhaanaenklleaaGreatDoorQ1
import Derived.Lib.Split
import Derived.Lib.Strings
import Derived.WalkKit
import Derived.ProofKit
import Derived.OpenShut
import Derived.WalkSpells
import Derived.WalkLawsBesides
import Derived.Below
import Derived.Deep.DeepFit
import Derived.RegionTactic
import Derived.ChangeAlike
import Derived.Deep.QuietTactic
import Derived.Deep.LoopGhost
import Derived.BigQuiet
import Derived.Laws.MakeOwn
import Derived.Laws.AppendOwn
import Derived.Deep.DeepMust
import Derived.Maps.AppendAt
import Derived.Test.YtdhaanaenklleaaGreatDoorQ2
import Derived.Test.YtdhaanaenklleaaGreatDoorQ4
import Derived.Laws.BitsAllLaws
import Derived.Test.YtdhaanaenklleaaGreatDoorXN2
import Derived.OwnWalk
import Derived.Deep.Onto
import Derived.Deep.AppendLies
import Derived.Test.YtdhaanaenklleaaGreatDoorXRc
import Derived.Lib.ConvBytes
import Derived.Test.YtdhaanaenklleaaGreatDoorXVZ
namespace Go.Proofs.YtdhaanaenklleaaGreatDoor

theorem mkB_append (a : List UInt8) (s : ByteArray) : mkB a ++ s = mkB (a ++ s.data.toList) := by
  apply ba_ext; rw [ba_append]; rfl
end Go.Proofs.YtdhaanaenklleaaGreatDoor
namespace Go.Proofs.YtdhaanaenklleaaGreatDoor
set_option linter.unusedVariables false
open Go.ChangeShapes Go.WideShapes Go.ChangeAt Go.RowKit

theorem below_drewN {B : Nat} {a w : World} (h : Below B a w) (n : Nat) : Below B a (w.drewN n) := h.trans ⟨rfl, rfl, rfl, Nat.le_refl _, fun _ _ => rfl⟩
end Go.Proofs.YtdhaanaenklleaaGreatDoor
namespace Go.Proofs.YtdhaanaenklleaaGreatDoor
set_option linter.unusedVariables false
open Go.ChangeShapes Go.WideShapes Go.ChangeAt Go.RowKit

theorem rsplit_any (s : ByteArray) (w : World) (hs : s.size ≤ 1073741824) :
    Calls Tryz.prog 65 #[.string s] w fun e w' => ∃ v, e = .returned v ∧ w'.ownsRow w.heap.size 9 1 v (splitL s).length ((splitL s).map Value.string) ∧ Below w.heap.size w w' := by
  unfold splitL
  have HS := Lib.hid (fun (w1 : World) => parts_own s w1 hs)
  cases hs1 : some1 s with
  | false =>
    have e := empty_of s hs1
    have h1 : (!s.toList.isEmpty) = false := by rw [e, Lib.toList_data]; rfl
    have h2 : (s.toList == ([] : List UInt8)) = true := by rw [e, Lib.toList_data]; rfl
    clear e hs1
    go_enter Tryz.func65, Tryz.ntmps65
    go_wp2_with fail
    go_ret
    exact ⟨_, rfl, World.ownsRow_nil _ _ _ _, Below.refl _ _⟩
  | true =>
    have n1 := toList_some s hs1
    have n2 : (s.toList == ([] : List UInt8)) = false := by
      have := toList_empty s hs1
      rw [Lib.toList_data ⟨#[]⟩] at this
      exact this
    clear hs1
    rw [if_pos rfl]
    go_enter Tryz.func65, Tryz.ntmps65
    go_wp2_with fail
    refine (HS.out _).mono ?_
    rintro e w1 ⟨v, rfl, hv, hB⟩
    go_wp2_with fail
    go_ret
    exact ⟨_, rfl, hv, hB⟩
end Go.Proofs.YtdhaanaenklleaaGreatDoor
namespace Go.Proofs.YtdhaanaenklleaaGreatDoor
set_option linter.unusedVariables false
open Go.ChangeShapes Go.WideShapes Go.ChangeAt Go.RowKit

set_option maxRecDepth 100000 in
set_option maxHeartbeats 1000000 in
theorem refCmp_any (a b : ByteArray) (w : World) (ha : a.size ≤ 1073741824) (hb : b.size ≤ 1073741824) :
    Calls Tryz.prog 43 #[.string a, .string b] w fun e w' => e = .returned (.int .i64 (cmpP a b)) ∧ Below w.heap.size w w' := by
  have h1 := splitL_len a
  have h2 := splitL_len b
  have H1 := Lib.hid (rsplit_any a w ha)
  have H2 := Lib.hid (fun (w1 : World) => rsplit_any b w1 hb)
  have He := Lib.hid (show cmpP a b = cmpL (splitL a) (splitL b) from rfl)
  generalize splitL a = x at *
  generalize splitL b = y at *
  generalize cmpP a b = r at *
  go_enter Tryz.func43, Tryz.ntmps43
  go_wp2_with fail
  refine H1.out.mono ?_
  rintro e w1 ⟨v, rfl, hv, hB⟩
  have hsv := Strs.ofRow hv
  clear hv
  go_wp2_with fail
  refine (H2.out _).mono ?_
  rintro e w2 ⟨u, rfl, hu, hB2⟩
  have hsu := Strs.ofRow hu
  have hsv2 := hsv.below hB2
  replace hB := hB.trans (hB2.mono hB.size)
  clear hu hsv hB2
  obtain ⟨p, cap, rfl, hp⟩ := strs_shape hsv2
  obtain ⟨q, cap2, rfl, hq⟩ := strs_shape hsu
  have Hp := Lib.hid hp
  have Hq := Lib.hid hq
  obtain ⟨la, hla⟩ : ∃ la, la = x.length := ⟨_, rfl⟩
  obtain ⟨lb, hlb⟩ : ∃ lb, lb = y.length := ⟨_, rfl⟩
  rw [← hla] at Hp h1 ⊢
  rw [← hlb] at Hq h2 ⊢
  have Hla := Lib.hid hla
  have Hlb := Lib.hid hlb
  have hla30 : la ≤ 1073741825 := by omega
  have hlb30 : lb ≤ 1073741825 := by omega
  clear hsv2 hsu hp hq hla hlb h1 h2
  go_wp2_with fail
  go_loopg [7] (la + 1) (fun g iv wr => ∃ k : Nat, k + g = la + 1 ∧ k ≤ la ∧ k ≤ lb ∧ iv = .int .i64 k ∧ x.take k = y.take k ∧ ∃ j, wr = w2.drewN j)
  case atStart => exact ⟨0, by omega, by omega, by omega, rfl, rfl, 0, rfl⟩
  case round =>
    obtain ⟨k, hkg, hka, hkb, rfl, htk, j, rfl⟩ := hrel
    have Hat := Lib.hid (cmpL_at x y k htk)
    have Htk := Lib.hid htk
    clear htk
    by_cases hlt : k < la
    · have hltI : (k : Int) < (la : Int) := by omega
      obtain ⟨b1, off, rfl, hb1, hcap, hmax, hcell⟩ := Hp.out (by omega)
      have hc1 := hcell k hlt
      have hda := drop_getD x k (by have := Hla.out; omega)
      have hta := take_getD x k (by have := Hla.out; omega)
      unfold maxLen at hmax
      obtain ⟨c, hx⟩ : ∃ c, c = x.getD k ByteArray.empty := ⟨_, rfl⟩
      rw [← hx] at hc1 hda hta
      have Hda := Lib.hid hda
      have Hta := Lib.hid hta
      clear hx hcell hda hta
      by_cases hlt2 : k < lb
      · have hlt2I : (k : Int) < (lb : Int) := by omega
        obtain ⟨b2, off2, rfl, hb2, hcap2, hmax2, hcell2⟩ := Hq.out (by omega)
        have hc2 := hcell2 k hlt2
        have hdb := drop_getD y k (by have := Hlb.out; omega)
        have htb := take_getD y k (by have := Hlb.out; omega)
        unfold maxLen at hmax2
        obtain ⟨d, hy⟩ : ∃ d, d = y.getD k ByteArray.empty := ⟨_, rfl⟩
        rw [← hy] at hc2 hdb htb
        have Hdb := Lib.hid hdb
        have Htb := Lib.hid htb
        clear hy hcell2 hdb htb
        cases hbl : Op.bytesLess c.toList d.toList with
        | true =>
          have Hn := Lib.hid (show cmpL x y = -1 by rw [Hat.out, Hda.out, Hdb.out, cmpL_cons, ord_less hbl]; rfl)
          go_wp2_with fail
          go_quiet (fail)
          go_wp2_with fail
          go_ret
          exact ⟨by rw [He.out, Hn.out]; rfl, below_drewN (below_drewN hB _) _⟩
        | false =>
          cases heq : (!c.toList == d.toList) with
          | true =>
            have Hn := Lib.hid (show cmpL x y = 1 by rw [Hat.out, Hda.out, Hdb.out, cmpL_cons, ord_more hbl heq]; rfl)
            go_wp2_with fail
            go_quiet (fail)
            go_wp2_with fail
            go_quiet (fail)
            go_wp2_with fail
            go_ret
            exact ⟨by rw [He.out, Hn.out]; rfl, below_drewN (below_drewN (below_drewN hB _) _) _⟩
          | false =>
            have e : c = d := (bl_so.zero c d).1 (ord_same hbl heq)
            have Hn := Lib.hid (show x.take (k + 1) = y.take (k + 1) by rw [Hta.out, Htb.out, Htk.out, e])
            clear e
            go_wp2_with fail
            go_quiet (fail)
            go_wp2_with fail
            go_quiet (fail)
            go_wp2_with fail
            go_roundg (gk - 1)
            case measure => omega
            case rel => exact ⟨k + 1, by omega, by omega, by omega, by go_num, Hn.out, _, rfl⟩
      · have hlt2I : ¬ (k : Int) < (lb : Int) := by omega
        have hg1 : ¬ (la : Int) < (lb : Int) := by omega
        have hg2 : (lb : Int) < (la : Int) := by omega
        have hdb : y.drop k = [] := List.drop_eq_nil_of_le (by have := Hlb.out; omega)
        have Hn := Lib.hid (show cmpL x y = 1 by rw [Hat.out, Hda.out, hdb, cmpL_right])
        clear hdb
        go_wp2_with fail
        go_ret
        exact ⟨by rw [He.out, Hn.out]; rfl, below_drewN hB _⟩
    · have hk : k = la := by omega
      subst hk
      have hda : x.drop k = [] := List.drop_eq_nil_of_le (by have := Hla.out; omega)
      by_cases hlt2 : k < lb
      · have hdb := drop_getD y k (by have := Hlb.out; omega)
        have Hn := Lib.hid (show cmpL x y = -1 by rw [Hat.out, hda, hdb, cmpL_left])
        have hg : (k : Int) < (lb : Int) := by omega
        clear hda hdb
        go_wp2_with fail
        go_ret
        exact ⟨by rw [He.out, Hn.out]; rfl, below_drewN hB _⟩
      · have hdb : y.drop k = [] := List.drop_eq_nil_of_le (by have := Hlb.out; omega)
        have Hn := Lib.hid (show cmpL x y = 0 by rw [Hat.out, hda, hdb, cmpL_nil])
        have hg : ¬ (k : Int) < (lb : Int) := by omega
        have hg2 : ¬ (lb : Int) < (k : Int) := by omega
        clear hda hdb
        go_wp2_with fail
        go_ret
        exact ⟨by rw [He.out, Hn.out]; rfl, below_drewN hB _⟩
end Go.Proofs.YtdhaanaenklleaaGreatDoor
namespace Go.Proofs.YtdhaanaenklleaaGreatDoor.S

theorem wrap_u64_small (n : Nat) (h : n < 18446744073709551616) : IntKind.u64.wrap (n : Int) = (n : Int) := by
  have e : (n : Int) % 2 ^ 64 = n := Int.emod_eq_of_lt (by omega) (by omega)
  simp only [IntKind.wrap, IntKind.bits, IntKind.signed, e]
  simp

end Go.Proofs.YtdhaanaenklleaaGreatDoor.S
namespace Go.Proofs.YtdhaanaenklleaaGreatDoor.S
open Go.ChangeShapes Go.WideShapes Go.ChangeAt Go.RowKit
def tailI (x k : Nat) : List Int := (List.range k).reverse.map fun j => ((x / 256 ^ j % 256 : Nat) : Int)
theorem tailI_succ (x k : Nat) : tailI x (k + 1) = ((x / 256 ^ k % 256 : Nat) : Int) :: tailI x k := by simp [tailI, List.range_succ]
theorem tailI_len (x k : Nat) : (tailI x k).length = k := by simp [tailI]

theorem nums_append (a b : List Int) : strOfNums a ++ strOfNums b = strOfNums (a ++ b) := by
  apply ByteArray.ext
  apply Array.toList_inj.1
  simp [strOfNums]

set_option maxRecDepth 100000 in
set_option maxHeartbeats 400000 in
theorem refNum_any (n : Int) (w : World) :
    Calls Tryz.prog 70 #[.int .i64 n] w fun e w' => e = .returned (.string (numB (n % 18446744073709551616).toNat)) ∧ Below w.heap.size w w' := by
  obtain ⟨x, hx⟩ : ∃ x, x = (n % 18446744073709551616).toNat := ⟨_, rfl⟩
  have hw : IntKind.u64.wrap n = (x : Int) := by rw [wrap_u64_nat, hx]
  have hx2 : x < 18446744073709551616 := by omega
  rw [← hx]
  clear hx
  go_enter Tryz.func70, Tryz.ntmps70
  go_wp2
  go_loopw [3, 4, 5] (fun xv s i wr => ∃ k : Nat, k ≤ 8 ∧ i = .int .i64 k ∧ xv = .int .u64 ((x / 256 ^ k : Nat) : Int) ∧ s = .string (strOfNums (tailI x k)) ∧ Below w.heap.size w wr) (fun _ _ i _ => 8 - (intOf i).toNat)
  case atStart => exact ⟨0, by omega, rfl, by simp, rfl, Below.refl _ _⟩
  case round =>
    obtain ⟨k, hk, rfl, rfl, rfl, hB⟩ := hrel
    by_cases hlt : k < 8
    · obtain ⟨q, hq⟩ : ∃ q, q = x / 256 ^ k := ⟨_, rfl⟩
      rw [← hq]
      have Hq := Lib.hid hq
      clear hq
      obtain ⟨t, ht⟩ : ∃ t, t = strOfNums (tailI x k) := ⟨_, rfl⟩
      have hts : t.size ≤ 8 := by rw [ht, strOfNums_size, tailI_len]; omega
      rw [← ht]
      have Ht := Lib.hid ht
      clear ht
      obtain ⟨c, hc⟩ : ∃ c, c = strOfNums [(q : Int) % 256] := ⟨_, rfl⟩
      have hcs : c.size ≤ 1 := by rw [hc, strOfNums_size]; simp
      have hcv : (convert 56 9 (.slice (some ⟨wr.heap.size, 0, none⟩) 1 1)).run Tryz.prog (wr.alloc (.cells #[.int .u8 ((q : Int) % 256)] 5)) = .ok (.string c) (wr.alloc (.cells #[.int .u8 ((q : Int) % 256)] 5)) := by
        rw [hc]
        exact run_convert_bytes_arg _ 56 5 Tryz.underlying56 Tryz.underlying5 _ 0 1 1 [(q : Int) % 256] rfl (fun i hi => by
          obtain rfl : i = 0 := by omega
          rw [Nat.add_zero, World.cell?_alloc_at _ _ _ _ rfl]; rfl) 9 Tryz.underlying9
      have Hc := Lib.hid hc
      clear hc
      go_wp2
      refine ⟨⟨k + 1, by omega, by go_num, ?_, ?_, hB.alloc hB.size _⟩, by simp [intOf]; omega⟩
      · have hq2 : q ≤ x := by rw [Hq.out]; exact Nat.div_le_self _ _
        rw [Nat.pow_succ, ← Nat.div_div_eq_div_mul, ← Hq.out, show (q : Int) / 256 = ((q / 256 : Nat) : Int) by omega, wrap_u64_small _ (by omega)]
      · rw [Hc.out, Ht.out, Hq.out, tailI_succ, nums_append]; rfl
    · obtain rfl : k = 8 := by omega
      go_wp2
      go_ret
      exact ⟨rfl, hB⟩


end Go.Proofs.YtdhaanaenklleaaGreatDoor.S
namespace Go.Proofs.YtdhaanaenklleaaGreatDoor.S
open Go.ChangeShapes Go.WideShapes Go.ChangeAt Go.RowKit

theorem mkB_append (a : List UInt8) (s : ByteArray) : mkB a ++ s = mkB (a ++ s.data.toList) := by
  apply ByteArray.ext
  apply Array.toList_inj.1
  simp [mkB]
set_option maxRecDepth 100000 in
set_option maxHeartbeats 400000 in
theorem refJoin_any (v : Value) (ss : List ByteArray) (w : World) (hv : Strs w v ss) (hz : total ss ≤ 1099511627776) (hl : ss.length ≤ 1099511627776) :
    Calls Tryz.prog 49 #[v] w fun e w' => e = .returned (.string (joinB ss)) ∧ Below w.heap.size w w' := by
  rcases hv with ⟨⟨pz, cz, rfl⟩, rfl⟩ | ⟨b, off, cap, rfl, hcap, hmax, hb, hcell⟩
  · go_enter Tryz.func49, Tryz.ntmps49
    go_wp2_with fail
    refine (refNum_any _ _).mono ?_
    rintro e w1 ⟨rfl, hB1⟩
    go_wp2_with fail
    refine wp_loop_rounds 1 ?_
    rw [rounds_succ]
    go_wp2_with fail
    go_ret
    exact ⟨by simp only [joinB, joinL, partsL, List.append_nil]; rfl, hB1⟩
  · obtain ⟨len, hlen⟩ : ∃ len, len = ss.length := ⟨_, rfl⟩
    rw [← hlen] at hcap hl hcell ⊢
    have Hlen := Lib.hid hlen
    have Hz := Lib.hid hz
    unfold maxLen at hmax
    clear hlen hz
    go_enter Tryz.func49, Tryz.ntmps49
    go_wp2_with fail
    refine (refNum_any _ _).mono ?_
    rintro e w1 ⟨rfl, hB1⟩
    rw [len_mod _ (by omega)]
    go_wp2_with fail
    go_loopw [3, 5, 11] (fun s _ i wr => ∃ k : Nat, k ≤ len ∧ i = .int .i64 k ∧ s = .string (mkB ((numB len).data.toList ++ partsL (ss.take k))) ∧ Below w.heap.size w wr) (fun _ _ i _ => len - (intOf i).toNat)
    case atStart => exact ⟨0, by omega, rfl, by simp [partsL, mkB_data], hB1⟩
    case round =>
      obtain ⟨k, hk, rfl, rfl, hB⟩ := hrel
      clear hB1
      by_cases hlt : k < len
      · have hc : wr.cell? ⟨b, off + k, none⟩ = some (.string (ss.getD k ByteArray.empty)) := by rw [hB.cell (p := ⟨b, off + k, none⟩) hb]; exact hcell k hlt
        have hpt := partsL_take ss k (by have := Hlen.out; omega)
        have htl : total (ss.take (k + 1)) ≤ 1099511627776 := by
          have := total_mono ss (k + 1) ss.length (by have := Hlen.out; omega) (Nat.le_refl _)
          rw [List.take_length] at this; have := Hz.out; omega
        rw [total_take ss k (by have := Hlen.out; omega)] at htl
        have hpl := partsL_len (ss.take k)
        rw [List.length_take] at hpl
        obtain ⟨s, hs⟩ : ∃ s, s = ss.getD k ByteArray.empty := ⟨_, rfl⟩
        rw [← hs] at hc hpt htl
        obtain ⟨t, ht⟩ : ∃ t, t = mkB ((numB len).data.toList ++ partsL (ss.take k)) := ⟨_, rfl⟩
        have hts : t.size ≤ 17592186044416 := by rw [ht, mkB_size, List.length_append, numB_len, hpl]; omega
        rw [← ht]
        have Hpt := Lib.hid hpt
        have Ht := Lib.hid ht
        have hsz : s.size ≤ 1099511627776 := by omega
        clear hs hpt hpl hcell htl ht
        go_wp2_with fail
        refine (refNum_any _ _).mono ?_
        rintro e w4 ⟨rfl, hB4⟩
        rw [len_mod _ (by omega)]
        have hB04 := hB.trans (hB4.mono hB.size)
        have hns : (numB s.size).size ≤ 8 := by rw [numB_size]; omega
        obtain ⟨n8, hn8⟩ : ∃ n8, n8 = numB s.size := ⟨_, rfl⟩
        rw [← hn8] at hns ⊢
        have Hn8 := Lib.hid hn8
        have hns2 : (t ++ n8).size ≤ 17592186044424 := by rw [ByteArray.size_append]; omega
        clear hB4 hB hc hn8
        go_wp2_with fail
        refine ⟨⟨k + 1, by omega, by go_num, ?_, hB04⟩, by simp [intOf]; omega⟩
        rw [Hpt.out, Ht.out, Hn8.out, mkB_append, mkB_append]
        simp only [List.append_assoc]
      · obtain rfl : k = len := by omega
        clear hcell
        have htk : ss.take k = ss := by rw [Hlen.out, List.take_length]
        rw [htk]
        clear htk
        go_wp2_with fail
        go_ret
        have ej : joinB ss = mkB ((numB k).data.toList ++ partsL ss) := by rw [joinB, joinL, ← Hlen.out]; rfl
        exact ⟨by rw [ej]; rfl, hB⟩
end Go.Proofs.YtdhaanaenklleaaGreatDoor.S
namespace Go.Proofs.YtdhaanaenklleaaGreatDoor
set_option linter.unusedVariables false
set_option linter.unusedSimpArgs false
open Go.ChangeShapes Go.WideShapes Go.ChangeAt Go.RowKit

theorem wpList_append_strs' {w : World} {ops : Array Oper} {rest : List Oper} {o : Oper} {a : Act} {Q : Exit → Act → World → Prop} (hgd : o.guard = none) (s x : Operand)
    (ho : o.op = .call { callee := .builtin .append, args := #[s, x], argTypes := #[99, 99] }) (hty : o.type = 99) (base : Nat) (v : Value) (xs : List ByteArray) (hs : a.eval s = v) (hown : w.ownsRow base 9 1 v xs.length (xs.map Value.string))
    (u : Value) (l : List ByteArray) (hu : Strs w u l) (hx : a.eval x = u) (hb : (xs.length + l.length) * 16 ≤ 140737488355328) (hbase : base ≤ w.heap.size)
    (h : ∀ v' w', w'.ownsRow base 9 1 v' (xs ++ l).length ((xs ++ l).map Value.string) → w.grownBy w' v.ownBlock → wpList Tryz.prog ops Q rest (a.put o.dst v') w') : wpList Tryz.prog ops Q (o :: rest) a w := by
  obtain ⟨v', w', h1, h2, h3⟩ := run_append_strs w base v _ _ u l hown hu hb hbase
  refine wpList_plain hgd fun K hK => ?_
  unfold Oper.wp execOp
  simp only [ho, hty, resolve, invoke, builtin, Sem.run_bind, Sem.run_pure, Result.andThen_ok, List.map_toArray, List.map_cons, List.map_nil, hs, hx]
  rw [h1]
  exact hK _ _ (h v' w' (by rw [List.length_append, List.map_append]; exact h2) h3)
theorem strs_lit (w : World) (s : ByteArray) : Strs (w.alloc (.cells #[.string s] 9)) (.slice (some ⟨w.heap.size, 0, none⟩) 1 1) [s] := strs_block (ss := [s]) (by unfold maxLen; simp) (by show (w.heap.push _)[w.heap.size]? = _; simp)
theorem box_absL {ops : Array Oper} {rest : List Oper} {Q : Exit → Act → World → Prop} {a : Act} {wr w' : World} {B : Nat} {row : List Value} (hb : BoxL wr B row w') (h : ∀ w2, BoxL wr B row w2 → wpList Tryz.prog ops Q rest a w2) : wpList Tryz.prog ops Q rest a w' := h _ hb
set_option maxRecDepth 100000 in
set_option maxHeartbeats 4000000 in
theorem refTree_any (v : Value) (a : List Ent) (w : World) (hv : Rows w 34 entR v a) (hz : ∀ x ∈ a, x.1.size ≤ 65536) (hn : a.length ≤ 65536) :
    Calls Tryz.prog 21 #[v] w fun e w' => e = .returned (.string (treeB a)) ∧ Below w.heap.size w w' := by
  have h32 : ∀ x ∈ a, x.2.2.1.length = 32 := fun x hx => by
    obtain ⟨k, hk, rfl⟩ := List.getElem_of_mem hx
    obtain ⟨p, cap, rfl, hp⟩ := hv.elem rfl
    obtain ⟨g1, o1, rfl, hg1, hcap1, hmax1, hcell1⟩ := hp (by omega)
    obtain ⟨ecs, he, -, -⟩ := hcell1 k hk
    exact (ent_cells he).2.2
  have Htot := Lib.hid (show S.total (partsE a) ≤ 1099511627776 by
    have := total_parts (n := 65536) a (fun x hx => ⟨hz x hx, h32 x hx⟩)
    have h2 : a.length * (65536 + 36) ≤ 65536 * (65536 + 36) := Nat.mul_le_mul_right _ hn
    omega)
  obtain ⟨len, hl⟩ : ∃ len, len = a.length := ⟨_, rfl⟩
  obtain ⟨p, cap, rfl, hp⟩ := hv.elem hl
  have Hp := Lib.hid hp
  have hnl : len ≤ 65536 := by omega
  have Ha := Lib.hid hl
  clear hv hp hl hz hn h32
  go_enter Tryz.func21, Tryz.ntmps21
  go_wp2_with fail
  go_loopg [3, 8] len (fun g vo iv wr => ∃ k : Nat, k + g = len ∧ iv = .int .i64 k ∧ LoS w (partsE (a.take k)) vo wr)
  case atStart => exact ⟨0, by omega, rfl, ⟨rfl, .inl ⟨rfl, rfl⟩⟩, Below.refl _ _⟩
  case round =>
    obtain ⟨k, hkg, rfl, hLo⟩ := hrel
    have HLo := Lib.hid hLo
    clear hLo
    by_cases hlt : k < len
    · have hltI : (k : Int) < (len : Int) := by omega
      have hka : k < a.length := by have := Ha.out; omega
      have hnx := partsE_next hka
      have hll : (partsE (a.take k)).length ≤ 196608 := by rw [partsE_len, List.length_take]; omega
      obtain ⟨g1, o1, rfl, hg1, hcap1, hmax1, hcell1⟩ := Hp.out (by omega)
      obtain ⟨ecs, he, hl34, hat⟩ := hcell1 k hka
      obtain ⟨f, hf⟩ : ∃ f, f = a[k] := ⟨_, rfl⟩
      rw [← hf] at he
      obtain ⟨rfl, hsz, h32⟩ := ent_cells he
      have Hf := Lib.hid hf
      obtain ⟨z, td, dv, ⟨⟩⟩ := f
      simp only at hsz h32
      have Hrg := Lib.hid (range_below hg1 hat HLo.out.bl)
      have hbox := fun old => box_at wr old 58 (entV (z, td, dv, ())) (j := 0) (y := .string z) rfl
      have hbox1 := fun old => box_at wr old 58 (entV (z, td, dv, ())) (j := 1) (y := .bool td) rfl
      have Hone := Lib.hid (one_row (entV_one (z, td, dv, ())))
      have hi0 : (Tryz.prog.info? 58).map (·.size) = some 34 := by kernel_rfl
      have Hi1 := Lib.hid (show (Tryz.prog.info? 58).map (·.size) = some (entV (z, td, dv, ())).length by rw [hi0, hl34])
      have Hi2 := Lib.hid (show (Tryz.prog.info? 58).map (·.size) = some ((entV (z, td, dv, ())).toArray).size by rw [hi0, List.size_toArray, hl34])
      have Hsz := Lib.hid (show 34 = ((entV (z, td, dv, ())).toArray).size by rw [List.size_toArray, hl34])
      have Hbx := Lib.hid (fun old => boxL_made wr old 58 (entV (z, td, dv, ())))
      have H32 := Lib.hid h32
      clear he hat hcell1 hi0 h32 hl34 hf
      rw [← Hf.out] at hnx
      simp only at hnx
      have Hnx := Lib.hid hnx
      clear hnx
      generalize partsE (a.take k) = ss at *
      cases td with
      | true =>
        have Hne := Lib.hid (show some wr.heap.size ≠ u3.ownBlock from fun e => by have := (HLo.out.ow.lt _ e.symm).2; omega)
        go_wp2_with (first | (refine wpList_load_mid rfl 58 (.tmp 10) rfl g1 (o1 + k * 34) rfl (entV (z, true, dv, ())) _ Hrg.out Tryz.underlying58 rfl Hi1.out ?_) | (refine wpList_store_rowTo rfl 58 (.tmp 5) (.tmp 11) rfl rfl wr.heap.size (entV (z, true, dv, ())).toArray rfl rfl 58 _ (heap_alloc_new wr _) Hi2.out (by rw [← Hsz.out]; rfl) Hone.out ?_; refine box_absL (Hbx.out _) ?_; intro w2 hbx; have HBx := Lib.hid hbx; have kb1 := hbx.r 1 (.bool true) rfl; have HLo2 := Lib.hid (HLo.out.below hbx.b); clear hbx hbox hbox1) | (at_builtin; go_must (refine wpList_append_strs' rfl (.tmp 14) (.tmp 15) rfl rfl w.heap.size _ ss rfl (S_own_below HLo2.out.ow ((Below.refl _ _).alloc (Nat.le_refl _) _)) _ [kindB true] (strs_lit w2 (kindB true)) rfl (by simp only [List.length_cons, List.length_nil]; omega) (by have := HLo2.out.bl.size; simp; omega) ?_); intro v3 w3 ho3 hg3; have HLo3 := Lib.hid ((HLo2.out.below ((Below.refl _ _).alloc (Nat.le_refl _) _)).put ho3 hg3); have HBx3 := Lib.hid ((HBx.out.toR.below ((Below.refl _ _).alloc (Nat.le_refl _) _)).grown hg3 Hne.out); clear ho3 hg3))
        have hd2 : Below w3.heap.size w3 w3.drew := (Below.refl _ _).drew
        have hbd := HBx3.out.below hd2
        have hRL : ∃ Rs : List (Value → World → Prop), Rs = [OwnS w.heap.size (v3) (ss ++ [kindB true]),
            K2.PureV (.pointer (some ⟨wr.heap.size, 0, none⟩)),
            K2.PureV (.string z),
            K2.PureV (.pointer (some ⟨wr.heap.size, 2, none⟩)),
            K2.PureV (.slice (some ⟨wr.heap.size, 2, none⟩) 32 32),
            K2.PureV (.string (idB dv)),
            K2.NewB 2 #[.string (z), .string (idB dv)] 9,
            RowT w.heap.size (ss ++ [kindB true] ++ [z, idB dv]),
            RowT w.heap.size (ss ++ [kindB true] ++ [z, idB dv])] := ⟨_, rfl⟩
        obtain ⟨Rs, hRs⟩ := hRL
        refine K2.wp_region_rel2 w.heap.size HLo3.out.bl.size (K2.RL Rs) [1, 2, 2, 2, 2, 2, 1, 1, 1] [1, 1, 1, 1, 1, 1, 1, 2, 1] [[], [], [], [], [], [], [], [0, 6], []] (by kernel_rfl) (by kernel_rfl) (K2.RL.st1 (by rw [hRs]; exact K2.st1_cons (OwnS.st1 _ _ _) (K2.st1_cons (K2.PureV.st1 _) (K2.st1_cons (K2.PureV.st1 _) (K2.st1_cons (K2.PureV.st1 _) (K2.st1_cons (K2.PureV.st1 _) (K2.st1_cons (K2.PureV.st1 _) (K2.st1_cons (K2.NewB.st1 _ _ _) (K2.st1_cons (RowT.st1 _ _) (K2.st1_cons (RowT.st1 _ _) (K2.st1_nil))))))))))) (K2.RL.st2 (by rw [hRs]; exact K2.st2_skip (K2.st2_cons (K2.PureV.st2 _ _ _) (K2.st2_cons (K2.PureV.st2 _ _ _) (K2.st2_cons (K2.PureV.st2 _ _ _) (K2.st2_cons (K2.PureV.st2 _ _ _) (K2.st2_cons (K2.PureV.st2 _ _ _) (K2.st2_skip (K2.st2_skip (K2.st2_skip (K2.st2_nil))))))))))) ?_ ?_ ?_
        · intro i o d hi hd
          have hmem := List.mem_of_getElem? hi
          simp only [List.mem_cons, List.not_mem_nil, or_false] at hmem
          rcases hmem with rfl | rfl | rfl | rfl | rfl | rfl | rfl | rfl | rfl <;> simp at hd <;> (subst hd; simp)
        · refine K2.rel_start (Φ := K2.Hop _ _ _ _ _ _ _) ?_
          refine K2.rel_cons (Φ := K2.Hop _ _ _ _ _ _ _) (k := 0) ?_ ?_
          · intro fa fw hfB hfN hfE hfk hft
            have hE : Below w3.drew.heap.size w3.drew fw := hfE (by kernel_rfl)
            have k3 : fa.eval (.tmp 3) = v3 := hft 3 (K2.mem_looks (by kernel_rfl)) (K2.noneed (by kernel_rfl))
            rw [hRs]
            refine K2.hop_plain rfl ?_
            refine K2.out_move rfl ?_
            exact ⟨⟨k3, S_own_below HLo3.out.ow (hd2.trans (hE.mono hd2.size))⟩, Below.refl _ _⟩
          refine K2.rel_cons (Φ := K2.Hop _ _ _ _ _ _ _) (k := 1) ?_ ?_
          · intro fa fw hfB hfN hfE hfk hft
            have k5 : fa.eval (.tmp 5) = .pointer (some ⟨wr.heap.size, 0, none⟩) := hft 5 (K2.mem_looks (by kernel_rfl)) (K2.noneed (by kernel_rfl))
            rw [hRs]
            refine K2.hop_plain rfl ?_
            generalize fa.eval = ρ at *
            exact K2.out_run (v := .pointer (some ⟨wr.heap.size, 0, none⟩)) (w' := fw) (by simp [execOp, k5, go_sem]) ⟨rfl, Below.refl _ _⟩
          refine K2.rel_cons (Φ := K2.Hop _ _ _ _ _ _ _) (k := 2) ?_ ?_
          · intro fa fw hfB hfN hfE hfk hft
            have hE : Below w3.drew.heap.size w3.drew fw := hfE (by kernel_rfl)
            have k21 : fa.eval (.tmp 21) = (.pointer (some ⟨wr.heap.size, 0, none⟩)) := by have := hfk 1 (K2.mem_needs (by kernel_rfl)) _ rfl; rw [hRs] at this; exact this
            rw [hRs]
            refine K2.hop_plain rfl ?_
            have h := (hbd.below hE).r 0 (.string z) rfl
            generalize fa.eval = ρ at *
            exact K2.out_run (v := .string z) (w' := fw) (by simp [execOp, k21, h, go_sem]) ⟨rfl, Below.refl _ _⟩
          refine K2.rel_cons (Φ := K2.Hop _ _ _ _ _ _ _) (k := 3) ?_ ?_
          · intro fa fw hfB hfN hfE hfk hft
            have k5 : fa.eval (.tmp 5) = .pointer (some ⟨wr.heap.size, 0, none⟩) := hft 5 (K2.mem_looks (by kernel_rfl)) (K2.noneed (by kernel_rfl))
            rw [hRs]
            refine K2.hop_plain rfl ?_
            generalize fa.eval = ρ at *
            exact K2.out_run (v := .pointer (some ⟨wr.heap.size, 2, none⟩)) (w' := fw) (by simp [execOp, k5, go_sem]) ⟨rfl, Below.refl _ _⟩
          refine K2.rel_cons (Φ := K2.Hop _ _ _ _ _ _ _) (k := 4) ?_ ?_
          · intro fa fw hfB hfN hfE hfk hft
            have k23 : fa.eval (.tmp 23) = (.pointer (some ⟨wr.heap.size, 2, none⟩)) := by have := hfk 3 (K2.mem_needs (by kernel_rfl)) _ rfl; rw [hRs] at this; exact this
            rw [hRs]
            refine K2.hop_plain rfl ?_
            generalize fa.eval = ρ at *
            exact K2.out_run (v := .slice (some ⟨wr.heap.size, 2, none⟩) 32 32) (w' := fw) (by simp [execOp, k23, slice_id, go_sem]) ⟨rfl, Below.refl _ _⟩
          refine K2.rel_cons (Φ := K2.Hop _ _ _ _ _ _ _) (k := 5) ?_ ?_
          · intro fa fw hfB hfN hfE hfk hft
            have hE : Below w3.drew.heap.size w3.drew fw := hfE (by kernel_rfl)
            have k24 : fa.eval (.tmp 24) = (.slice (some ⟨wr.heap.size, 2, none⟩) 32 32) := by have := hfk 4 (K2.mem_needs (by kernel_rfl)) _ rfl; rw [hRs] at this; exact this
            rw [hRs]
            refine K2.hop_plain rfl ?_
            have h := conv_id (td := true) (hbd.below hE) H32.out
            generalize fa.eval = ρ at *
            exact K2.out_run (v := .string (idB dv)) (w' := fw) (by unfold execOp; simp only [Sem.run_bind, k24, h, Result.andThen_ok, Sem.run_pure]) ⟨rfl, Below.refl _ _⟩
          refine K2.rel_cons (Φ := K2.Hop _ _ _ _ _ _ _) (k := 6) ?_ ?_
          · intro fa fw hfB hfN hfE hfk hft
            have k22 : fa.eval (.tmp 22) = (.string z) := by have := hfk 2 (K2.mem_needs (by kernel_rfl)) _ rfl; rw [hRs] at this; exact this
            have k25 : fa.eval (.tmp 25) = (.string (idB dv)) := by have := hfk 5 (K2.mem_needs (by kernel_rfl)) _ rfl; rw [hRs] at this; exact this
            rw [hRs]
            refine K2.hop_plain rfl ?_
            have kc : ∀ v, fa.eval (.const v) = v := fun _ => rfl
            generalize fa.eval = ρ at *
            exact K2.out_run (v := .slice (some ⟨fw.heap.size, 0, none⟩) 2 2) (w' := fw.alloc (.cells #[.string (z), .string (idB dv)] 9)) (by simp [execOp, kc, k22, k25, go_sem]) ⟨⟨_, rfl, heap_alloc_new _ _⟩, (Below.refl _ _).alloc (Nat.le_refl _) _⟩
          refine K2.rel_cons (Φ := K2.Hop _ _ _ _ _ _ _) (k := 7) ?_ ?_
          · intro fa fw hfB hfN hfE hfk hft
            have k20 : (OwnS w.heap.size (v3) (ss ++ [kindB true])) (fa.eval (.tmp 20)) fw := by have := hfk 0 (K2.mem_needs (by kernel_rfl)) _ rfl; rw [hRs] at this; exact this
            have k26 : (K2.NewB 2 #[.string (z), .string (idB dv)] 9) (fa.eval (.tmp 26)) fw := by have := hfk 6 (K2.mem_needs (by kernel_rfl)) _ rfl; rw [hRs] at this; exact this
            rw [hRs]
            refine K2.hop_plain rfl ?_
            obtain ⟨hv0, ho0⟩ := k20
            obtain ⟨B1, hb1, hb2⟩ := k26
            obtain ⟨v', w', hr, ho, hg⟩ := run_append_strs fw w.heap.size _ _ _ _ [z, idB dv] ho0 (strs_block (ss := [z, idB dv]) (by unfold maxLen; simp) hb2) (by simp only [List.length_append, List.length_cons, List.length_nil]; omega) hfN
            refine out_append' (.tmp 20) (.tmp 26) 99 rfl hv0 hb1 hr ⟨(show RowT w.heap.size (ss ++ [kindB true] ++ [z, idB dv]) v' w' from ⟨by rw [List.length_append, List.map_append]; exact ho⟩), ?_⟩
            exact (Below.refl _ _).grown hg hfN (fun k hk => (ho0.lt k hk).1)
          refine K2.rel_cons (Φ := K2.Hop _ _ _ _ _ _ _) (k := 8) ?_ ?_
          · intro fa fw hfB hfN hfE hfk hft
            have k27 : (RowT w.heap.size (ss ++ [kindB true] ++ [z, idB dv])) (fa.eval (.tmp 27)) fw := by have := hfk 7 (K2.mem_needs (by kernel_rfl)) _ rfl; rw [hRs] at this; exact this
            rw [hRs]
            refine K2.hop_plain rfl ?_
            refine K2.out_assign rfl ?_
            exact ⟨k27, Below.refl _ _⟩
          exact K2.rel_nil
        · intro fa fw hfB hfy hff hfs hfd
          rw [hRs] at hfy
          have k3 : (RowT w.heap.size (ss ++ [kindB true] ++ [z, idB dv])) (fa.eval (.tmp 3)) fw := hfy 8 _ rfl (K2.unkilled (by decide))
          replace k3 : RowT w.heap.size (ss ++ [kindB true] ++ [z, idB dv]) (fa.tmps.getD 3 undef) fw := k3
          have HBf := Lib.hid (show Below w.heap.size w fw from HLo3.out.bl.drew.trans hfB)
          have e := K2.rel_frame [20, 21, 22, 23, 24, 25, 26, 27, 3] (by kernel_rfl) hff hfs hfd
          simp only [List.foldl] at e
          clear hfy hff hfs hfd 
          generalize fa.tmps.getD 20 undef = x20 at e
          generalize fa.tmps.getD 21 undef = x21 at e
          generalize fa.tmps.getD 22 undef = x22 at e
          generalize fa.tmps.getD 23 undef = x23 at e
          generalize fa.tmps.getD 24 undef = x24 at e
          generalize fa.tmps.getD 25 undef = x25 at e
          generalize fa.tmps.getD 26 undef = x26 at e
          generalize fa.tmps.getD 27 undef = x27 at e
          generalize fa.tmps.getD 3 undef = x3 at e k3
          simp [List.setIfInBounds_toArray, List.set_cons_succ, List.set_cons_zero] at e
          subst e
          have HLn := Lib.hid (show LoS w _ x3 fw from ⟨k3.own, HBf.out⟩)
          clear k3
          go_wp2_with fail
          go_roundg (gk - 1)
          case measure => omega
          case rel => exact ⟨k + 1, by omega, by go_num, by rw [Hnx.out]; have := HLn.out; rw [List.append_assoc] at this; exact this⟩
      | false =>
        have Hne := Lib.hid (show some wr.heap.size ≠ u3.ownBlock from fun e => by have := (HLo.out.ow.lt _ e.symm).2; omega)
        go_wp2_with (first | (refine wpList_load_mid rfl 58 (.tmp 10) rfl g1 (o1 + k * 34) rfl (entV (z, false, dv, ())) _ Hrg.out Tryz.underlying58 rfl Hi1.out ?_) | (refine wpList_store_rowTo rfl 58 (.tmp 5) (.tmp 11) rfl rfl wr.heap.size (entV (z, false, dv, ())).toArray rfl rfl 58 _ (heap_alloc_new wr _) Hi2.out (by rw [← Hsz.out]; rfl) Hone.out ?_; refine box_absL (Hbx.out _) ?_; intro w2 hbx; have HBx := Lib.hid hbx; have kb1 := hbx.r 1 (.bool false) rfl; have HLo2 := Lib.hid (HLo.out.below hbx.b); clear hbx hbox hbox1) | (at_builtin; go_must (refine wpList_append_strs' rfl (.tmp 17) (.tmp 18) rfl rfl w.heap.size _ ss rfl (S_own_below HLo2.out.ow ((Below.refl _ _).alloc (Nat.le_refl _) _)) _ [kindB false] (strs_lit w2 (kindB false)) rfl (by simp only [List.length_cons, List.length_nil]; omega) (by have := HLo2.out.bl.size; simp; omega) ?_); intro v3 w3 ho3 hg3; have HLo3 := Lib.hid ((HLo2.out.below ((Below.refl _ _).alloc (Nat.le_refl _) _)).put ho3 hg3); have HBx3 := Lib.hid ((HBx.out.toR.below ((Below.refl _ _).alloc (Nat.le_refl _) _)).grown hg3 Hne.out); clear ho3 hg3))
        have hd2 : Below w3.heap.size w3 w3.drew := (Below.refl _ _).drew
        have hbd := HBx3.out.below hd2
        have hRL : ∃ Rs : List (Value → World → Prop), Rs = [OwnS w.heap.size (v3) (ss ++ [kindB false]),
            K2.PureV (.pointer (some ⟨wr.heap.size, 0, none⟩)),
            K2.PureV (.string z),
            K2.PureV (.pointer (some ⟨wr.heap.size, 2, none⟩)),
            K2.PureV (.slice (some ⟨wr.heap.size, 2, none⟩) 32 32),
            K2.PureV (.string (idB dv)),
            K2.NewB 2 #[.string (z), .string (idB dv)] 9,
            RowT w.heap.size (ss ++ [kindB false] ++ [z, idB dv]),
            RowT w.heap.size (ss ++ [kindB false] ++ [z, idB dv])] := ⟨_, rfl⟩
        obtain ⟨Rs, hRs⟩ := hRL
        refine K2.wp_region_rel2 w.heap.size HLo3.out.bl.size (K2.RL Rs) [1, 2, 2, 2, 2, 2, 1, 1, 1] [1, 1, 1, 1, 1, 1, 1, 2, 1] [[], [], [], [], [], [], [], [0, 6], []] (by kernel_rfl) (by kernel_rfl) (K2.RL.st1 (by rw [hRs]; exact K2.st1_cons (OwnS.st1 _ _ _) (K2.st1_cons (K2.PureV.st1 _) (K2.st1_cons (K2.PureV.st1 _) (K2.st1_cons (K2.PureV.st1 _) (K2.st1_cons (K2.PureV.st1 _) (K2.st1_cons (K2.PureV.st1 _) (K2.st1_cons (K2.NewB.st1 _ _ _) (K2.st1_cons (RowT.st1 _ _) (K2.st1_cons (RowT.st1 _ _) (K2.st1_nil))))))))))) (K2.RL.st2 (by rw [hRs]; exact K2.st2_skip (K2.st2_cons (K2.PureV.st2 _ _ _) (K2.st2_cons (K2.PureV.st2 _ _ _) (K2.st2_cons (K2.PureV.st2 _ _ _) (K2.st2_cons (K2.PureV.st2 _ _ _) (K2.st2_cons (K2.PureV.st2 _ _ _) (K2.st2_skip (K2.st2_skip (K2.st2_skip (K2.st2_nil))))))))))) ?_ ?_ ?_
        · intro i o d hi hd
          have hmem := List.mem_of_getElem? hi
          simp only [List.mem_cons, List.not_mem_nil, or_false] at hmem
          rcases hmem with rfl | rfl | rfl | rfl | rfl | rfl | rfl | rfl | rfl <;> simp at hd <;> (subst hd; simp)
        · refine K2.rel_start (Φ := K2.Hop _ _ _ _ _ _ _) ?_
          refine K2.rel_cons (Φ := K2.Hop _ _ _ _ _ _ _) (k := 0) ?_ ?_
          · intro fa fw hfB hfN hfE hfk hft
            have hE : Below w3.drew.heap.size w3.drew fw := hfE (by kernel_rfl)
            have k3 : fa.eval (.tmp 3) = v3 := hft 3 (K2.mem_looks (by kernel_rfl)) (K2.noneed (by kernel_rfl))
            rw [hRs]
            refine K2.hop_plain rfl ?_
            refine K2.out_move rfl ?_
            exact ⟨⟨k3, S_own_below HLo3.out.ow (hd2.trans (hE.mono hd2.size))⟩, Below.refl _ _⟩
          refine K2.rel_cons (Φ := K2.Hop _ _ _ _ _ _ _) (k := 1) ?_ ?_
          · intro fa fw hfB hfN hfE hfk hft
            have k5 : fa.eval (.tmp 5) = .pointer (some ⟨wr.heap.size, 0, none⟩) := hft 5 (K2.mem_looks (by kernel_rfl)) (K2.noneed (by kernel_rfl))
            rw [hRs]
            refine K2.hop_plain rfl ?_
            generalize fa.eval = ρ at *
            exact K2.out_run (v := .pointer (some ⟨wr.heap.size, 0, none⟩)) (w' := fw) (by simp [execOp, k5, go_sem]) ⟨rfl, Below.refl _ _⟩
          refine K2.rel_cons (Φ := K2.Hop _ _ _ _ _ _ _) (k := 2) ?_ ?_
          · intro fa fw hfB hfN hfE hfk hft
            have hE : Below w3.drew.heap.size w3.drew fw := hfE (by kernel_rfl)
            have k21 : fa.eval (.tmp 21) = (.pointer (some ⟨wr.heap.size, 0, none⟩)) := by have := hfk 1 (K2.mem_needs (by kernel_rfl)) _ rfl; rw [hRs] at this; exact this
            rw [hRs]
            refine K2.hop_plain rfl ?_
            have h := (hbd.below hE).r 0 (.string z) rfl
            generalize fa.eval = ρ at *
            exact K2.out_run (v := .string z) (w' := fw) (by simp [execOp, k21, h, go_sem]) ⟨rfl, Below.refl _ _⟩
          refine K2.rel_cons (Φ := K2.Hop _ _ _ _ _ _ _) (k := 3) ?_ ?_
          · intro fa fw hfB hfN hfE hfk hft
            have k5 : fa.eval (.tmp 5) = .pointer (some ⟨wr.heap.size, 0, none⟩) := hft 5 (K2.mem_looks (by kernel_rfl)) (K2.noneed (by kernel_rfl))
            rw [hRs]
            refine K2.hop_plain rfl ?_
            generalize fa.eval = ρ at *
            exact K2.out_run (v := .pointer (some ⟨wr.heap.size, 2, none⟩)) (w' := fw) (by simp [execOp, k5, go_sem]) ⟨rfl, Below.refl _ _⟩
          refine K2.rel_cons (Φ := K2.Hop _ _ _ _ _ _ _) (k := 4) ?_ ?_
          · intro fa fw hfB hfN hfE hfk hft
            have k23 : fa.eval (.tmp 23) = (.pointer (some ⟨wr.heap.size, 2, none⟩)) := by have := hfk 3 (K2.mem_needs (by kernel_rfl)) _ rfl; rw [hRs] at this; exact this
            rw [hRs]
            refine K2.hop_plain rfl ?_
            generalize fa.eval = ρ at *
            exact K2.out_run (v := .slice (some ⟨wr.heap.size, 2, none⟩) 32 32) (w' := fw) (by simp [execOp, k23, slice_id, go_sem]) ⟨rfl, Below.refl _ _⟩
          refine K2.rel_cons (Φ := K2.Hop _ _ _ _ _ _ _) (k := 5) ?_ ?_
          · intro fa fw hfB hfN hfE hfk hft
            have hE : Below w3.drew.heap.size w3.drew fw := hfE (by kernel_rfl)
            have k24 : fa.eval (.tmp 24) = (.slice (some ⟨wr.heap.size, 2, none⟩) 32 32) := by have := hfk 4 (K2.mem_needs (by kernel_rfl)) _ rfl; rw [hRs] at this; exact this
            rw [hRs]
            refine K2.hop_plain rfl ?_
            have h := conv_id (td := false) (hbd.below hE) H32.out
            generalize fa.eval = ρ at *
            exact K2.out_run (v := .string (idB dv)) (w' := fw) (by unfold execOp; simp only [Sem.run_bind, k24, h, Result.andThen_ok, Sem.run_pure]) ⟨rfl, Below.refl _ _⟩
          refine K2.rel_cons (Φ := K2.Hop _ _ _ _ _ _ _) (k := 6) ?_ ?_
          · intro fa fw hfB hfN hfE hfk hft
            have k22 : fa.eval (.tmp 22) = (.string z) := by have := hfk 2 (K2.mem_needs (by kernel_rfl)) _ rfl; rw [hRs] at this; exact this
            have k25 : fa.eval (.tmp 25) = (.string (idB dv)) := by have := hfk 5 (K2.mem_needs (by kernel_rfl)) _ rfl; rw [hRs] at this; exact this
            rw [hRs]
            refine K2.hop_plain rfl ?_
            have kc : ∀ v, fa.eval (.const v) = v := fun _ => rfl
            generalize fa.eval = ρ at *
            exact K2.out_run (v := .slice (some ⟨fw.heap.size, 0, none⟩) 2 2) (w' := fw.alloc (.cells #[.string (z), .string (idB dv)] 9)) (by simp [execOp, kc, k22, k25, go_sem]) ⟨⟨_, rfl, heap_alloc_new _ _⟩, (Below.refl _ _).alloc (Nat.le_refl _) _⟩
          refine K2.rel_cons (Φ := K2.Hop _ _ _ _ _ _ _) (k := 7) ?_ ?_
          · intro fa fw hfB hfN hfE hfk hft
            have k20 : (OwnS w.heap.size (v3) (ss ++ [kindB false])) (fa.eval (.tmp 20)) fw := by have := hfk 0 (K2.mem_needs (by kernel_rfl)) _ rfl; rw [hRs] at this; exact this
            have k26 : (K2.NewB 2 #[.string (z), .string (idB dv)] 9) (fa.eval (.tmp 26)) fw := by have := hfk 6 (K2.mem_needs (by kernel_rfl)) _ rfl; rw [hRs] at this; exact this
            rw [hRs]
            refine K2.hop_plain rfl ?_
            obtain ⟨hv0, ho0⟩ := k20
            obtain ⟨B1, hb1, hb2⟩ := k26
            obtain ⟨v', w', hr, ho, hg⟩ := run_append_strs fw w.heap.size _ _ _ _ [z, idB dv] ho0 (strs_block (ss := [z, idB dv]) (by unfold maxLen; simp) hb2) (by simp only [List.length_append, List.length_cons, List.length_nil]; omega) hfN
            refine out_append' (.tmp 20) (.tmp 26) 99 rfl hv0 hb1 hr ⟨(show RowT w.heap.size (ss ++ [kindB false] ++ [z, idB dv]) v' w' from ⟨by rw [List.length_append, List.map_append]; exact ho⟩), ?_⟩
            exact (Below.refl _ _).grown hg hfN (fun k hk => (ho0.lt k hk).1)
          refine K2.rel_cons (Φ := K2.Hop _ _ _ _ _ _ _) (k := 8) ?_ ?_
          · intro fa fw hfB hfN hfE hfk hft
            have k27 : (RowT w.heap.size (ss ++ [kindB false] ++ [z, idB dv])) (fa.eval (.tmp 27)) fw := by have := hfk 7 (K2.mem_needs (by kernel_rfl)) _ rfl; rw [hRs] at this; exact this
            rw [hRs]
            refine K2.hop_plain rfl ?_
            refine K2.out_assign rfl ?_
            exact ⟨k27, Below.refl _ _⟩
          exact K2.rel_nil
        · intro fa fw hfB hfy hff hfs hfd
          rw [hRs] at hfy
          have k3 : (RowT w.heap.size (ss ++ [kindB false] ++ [z, idB dv])) (fa.eval (.tmp 3)) fw := hfy 8 _ rfl (K2.unkilled (by decide))
          replace k3 : RowT w.heap.size (ss ++ [kindB false] ++ [z, idB dv]) (fa.tmps.getD 3 undef) fw := k3
          have HBf := Lib.hid (show Below w.heap.size w fw from HLo3.out.bl.drew.trans hfB)
          have e := K2.rel_frame [20, 21, 22, 23, 24, 25, 26, 27, 3] (by kernel_rfl) hff hfs hfd
          simp only [List.foldl] at e
          clear hfy hff hfs hfd 
          generalize fa.tmps.getD 20 undef = x20 at e
          generalize fa.tmps.getD 21 undef = x21 at e
          generalize fa.tmps.getD 22 undef = x22 at e
          generalize fa.tmps.getD 23 undef = x23 at e
          generalize fa.tmps.getD 24 undef = x24 at e
          generalize fa.tmps.getD 25 undef = x25 at e
          generalize fa.tmps.getD 26 undef = x26 at e
          generalize fa.tmps.getD 27 undef = x27 at e
          generalize fa.tmps.getD 3 undef = x3 at e k3
          simp [List.setIfInBounds_toArray, List.set_cons_succ, List.set_cons_zero] at e
          subst e
          have HLn := Lib.hid (show LoS w _ x3 fw from ⟨k3.own, HBf.out⟩)
          clear k3
          go_wp2_with fail
          go_roundg (gk - 1)
          case measure => omega
          case rel => exact ⟨k + 1, by omega, by go_num, by rw [Hnx.out]; have := HLn.out; rw [List.append_assoc] at this; exact this⟩
    · have hnI : ¬ (k : Int) < (len : Int) := by omega
      have HL1 := Lib.hid (show LoS w (partsE a) u3 wr by have := HLo.out; rwa [List.take_of_length_le (by have := Ha.out; omega)] at this)
      have Hpl := Lib.hid (show (partsE a).length ≤ 1099511627776 by rw [partsE_len]; have := Ha.out; omega)
      clear HLo
      go_wp2_with fail
      refine (S.refJoin_any _ (partsE a) wr (Strs.ofRow HL1.out.ow) Htot.out Hpl.out).mono ?_
      rintro e w5 ⟨rfl, hB5⟩
      have HB5 := Lib.hid (HL1.out.bl.trans (hB5.mono HL1.out.bl.size))
      clear hB5
      go_wp2_with fail
      go_ret
      exact ⟨rfl, HB5.out⟩

end Go.Proofs.YtdhaanaenklleaaGreatDoor
namespace Go.Proofs.YtdhaanaenklleaaGreatDoor
set_option linter.unusedVariables false
set_option linter.unusedSimpArgs false
open Go.ChangeShapes Go.WideShapes Go.ChangeAt Go.RowKit
end Go.Proofs.YtdhaanaenklleaaGreatDoor
namespace Go.Proofs.YtdhaanaenklleaaGreatDoor
set_option linter.unusedVariables false
set_option linter.unusedSimpArgs false
open Go.ChangeShapes Go.WideShapes Go.ChangeAt Go.RowKit
open Go

end Go.Proofs.YtdhaanaenklleaaGreatDoor
namespace Go.Proofs.YtdhaanaenklleaaGreatDoor
set_option linter.unusedVariables false
set_option linter.unusedSimpArgs false
open Go.ChangeShapes Go.WideShapes Go.ChangeAt Go.RowKit

theorem conv_made (s : ByteArray) (w : World) (hs : s.size ≤ 9223372036854775807) : ∃ v w', (convert 9 56 (.string s)).run Tryz.prog w = .ok v w' ∧ S.BytsN w' v (S.bytesL s) ∧ Below w.heap.size w w' := by
  refine ⟨_, _, Lib.run_convert_string_bytes w 9 56 5 s Tryz.underlying9 Tryz.underlying56 Tryz.underlying5, ?_, ?_⟩
  · have hl := S.bytesL_len s
    refine .inr (.inr ⟨w.heap.size, 0, grownCap w s.size 0 5, by rw [hl], by rw [hl]; exact grownCap_ge _ _ _ _, grownCap_le_maxLen _ _ _ _ (by unfold maxLen; omega), by rw [Lib.bytesWorld_size]; omega, fun i hi => ?_⟩)
    rw [hl] at hi
    rw [Nat.zero_add, Lib.bytesWorld_cell _ _ _ _ hi]
    have hi2 : i < s.data.toList.length := by rw [← Lib.size_eq]; exact hi
    simp only [S.bytesL, List.getD_eq_getElem?_getD, List.getElem?_map, List.getElem?_eq_getElem hi2, Option.map_some, Option.getD_some]
  · exact ⟨by simp [Lib.bytesWorld, World.freeze, World.alloc, World.drew, -World.alloc_eq, -World.drew_eq], by simp [Lib.bytesWorld, World.freeze, World.alloc, World.drew, -World.alloc_eq, -World.drew_eq], by simp [Lib.bytesWorld, World.freeze, World.alloc, World.drew, -World.alloc_eq, -World.drew_eq], by rw [Lib.bytesWorld_size]; omega, fun k hk => Lib.bytesWorld_at_old _ _ _ _ hk⟩
set_option maxRecDepth 100000 in
set_option maxHeartbeats 4000000 in
theorem refSum_any (k s : ByteArray) (w : World) (hk : k.size ≤ 16) (hs : s.size ≤ 4096) : Calls Tryz.prog 45 #[.string k, .string s] w fun e w' => e = .returned (.agg (S.ints .u8 (dg k s))) ∧ Below w.heap.size w w' := by
  have HR := Lib.hid ((Res37.made w #[.int .u8 0, .int .u8 0, .int .u8 0, .int .u8 0, .int .u8 0, .int .u8 0, .int .u8 0, .int .u8 0, .int .u8 0, .int .u8 0, .int .u8 0, .int .u8 0, .int .u8 0, .int .u8 0, .int .u8 0, .int .u8 0, .int .u8 0, .int .u8 0, .int .u8 0, .int .u8 0, .int .u8 0, .int .u8 0, .int .u8 0, .int .u8 0, .int .u8 0, .int .u8 0, .int .u8 0, .int .u8 0, .int .u8 0, .int .u8 0, .int .u8 0, .int .u8 0] rfl).below ((Below.refl _ _).alloc (Nat.le_refl _) (.cells #[.string k, .string s] 9)))
  have HS := Lib.hid (S.refJoin_any (.slice (some ⟨w.heap.size + 1, 0, none⟩) 2 2) [k, s] ((w.alloc (.cells #[.int .u8 0, .int .u8 0, .int .u8 0, .int .u8 0, .int .u8 0, .int .u8 0, .int .u8 0, .int .u8 0, .int .u8 0, .int .u8 0, .int .u8 0, .int .u8 0, .int .u8 0, .int .u8 0, .int .u8 0, .int .u8 0, .int .u8 0, .int .u8 0, .int .u8 0, .int .u8 0, .int .u8 0, .int .u8 0, .int .u8 0, .int .u8 0, .int .u8 0, .int .u8 0, .int .u8 0, .int .u8 0, .int .u8 0, .int .u8 0, .int .u8 0, .int .u8 0] 32)).alloc (.cells #[.string k, .string s] 9))
    (strs_cells (zs := [k, s]) (by have h := heap_alloc_new (w.alloc (.cells #[.int .u8 0, .int .u8 0, .int .u8 0, .int .u8 0, .int .u8 0, .int .u8 0, .int .u8 0, .int .u8 0, .int .u8 0, .int .u8 0, .int .u8 0, .int .u8 0, .int .u8 0, .int .u8 0, .int .u8 0, .int .u8 0, .int .u8 0, .int .u8 0, .int .u8 0, .int .u8 0, .int .u8 0, .int .u8 0, .int .u8 0, .int .u8 0, .int .u8 0, .int .u8 0, .int .u8 0, .int .u8 0, .int .u8 0, .int .u8 0, .int .u8 0, .int .u8 0] 32)) (.cells #[.string k, .string s] 9); simpa using h) (by unfold maxLen; simp)) (by rw [total_two]; omega) (by simp))
  have hsz : (S.joinB [k, s]).size ≤ 8192 := by rw [sjoin_size, total_two]; simp only [List.length_cons, List.length_nil]; omega
  have Hsz := Lib.hid hsz
  go_enter Tryz.func45, Tryz.ntmps45
  go_wp2_with fail
  refine HS.out.mono ?_
  rintro e w1 ⟨rfl, hB1⟩
  replace HR := Lib.hid (HR.out.below hB1)
  obtain ⟨v, w2, hcv, hv, hB2⟩ := conv_made (S.joinB [k, s]) w1 (by omega)
  replace HR := Lib.hid (HR.out.below hB2)
  have HO := Lib.hid (S.dof_any v (S.bytesL (S.joinB [k, s])) w2 hv (S.bytesL_small _) (by rw [S.bytesL_len]; omega))
  clear hB1 hB2 HS hv
  go_wp2_with fail
  refine HO.out.mono ?_
  rintro e w3 ⟨rfl, hB3⟩
  obtain ⟨cs, hcs, hcz⟩ := (HR.out.below hB3).at_
  have HB1 := Lib.hid (HR.out.below hB3).b
  have hd : S.shaL (S.bytesL (S.joinB [k, s])) = dg k s := rfl
  rw [hd]
  have Hz := Lib.hid (size37 _ (dg_len k s))
  have Hone := Lib.hid (S.ints_one .u8 (dg k s))
  have Hs := Lib.hid (show (S.ints .u8 (dg k s)).size = 32 by rw [S.ints_size, dg_len])
  obtain ⟨R, hRe⟩ : ∃ R, R = S.ints .u8 (dg k s) := ⟨_, rfl⟩
  rw [← hRe] at Hz Hone Hs ⊢
  have HRe := Lib.hid hRe
  clear hRe
  clear hB3 hd HO HR
  go_wp2_with (first | (refine wpList_store_rowTo rfl 32 _ _ rfl rfl w.heap.size R rfl rfl 32 cs hcs Hz.out (by rw [hcz, Hs.out]) Hone.out ?_))
  exact bodyPost_ret (v := .agg R) (results_cell_row (fr := (0, 0)) rfl _ _ w.heap.size 32 _ _ rfl (setRow_heap _ _ _ R 32 (0, 0) hcs) Tryz.underlying32 rfl Hz.out) rfl ⟨by rw [HRe.out], below_setRow HB1.out (Nat.le_refl _) R⟩
end Go.Proofs.YtdhaanaenklleaaGreatDoor
namespace Go.Proofs.YtdhaanaenklleaaGreatDoor
set_option linter.unusedVariables false
set_option linter.unusedSimpArgs false
open Go.ChangeShapes Go.WideShapes Go.ChangeAt Go.RowKit

set_option maxRecDepth 100000 in
set_option maxHeartbeats 4000000 in
theorem refSum_big (k s : ByteArray) (w : World) (hk : k.size ≤ 16) (hs : s.size ≤ 1048576) : Calls Tryz.prog 45 #[.string k, .string s] w fun e w' => e = .returned (.agg (S.ints .u8 (dg k s))) ∧ Below w.heap.size w w' := by
  have HR := Lib.hid ((Res37.made w #[.int .u8 0, .int .u8 0, .int .u8 0, .int .u8 0, .int .u8 0, .int .u8 0, .int .u8 0, .int .u8 0, .int .u8 0, .int .u8 0, .int .u8 0, .int .u8 0, .int .u8 0, .int .u8 0, .int .u8 0, .int .u8 0, .int .u8 0, .int .u8 0, .int .u8 0, .int .u8 0, .int .u8 0, .int .u8 0, .int .u8 0, .int .u8 0, .int .u8 0, .int .u8 0, .int .u8 0, .int .u8 0, .int .u8 0, .int .u8 0, .int .u8 0, .int .u8 0] rfl).below ((Below.refl _ _).alloc (Nat.le_refl _) (.cells #[.string k, .string s] 9)))
  have HS := Lib.hid (S.refJoin_any (.slice (some ⟨w.heap.size + 1, 0, none⟩) 2 2) [k, s] ((w.alloc (.cells #[.int .u8 0, .int .u8 0, .int .u8 0, .int .u8 0, .int .u8 0, .int .u8 0, .int .u8 0, .int .u8 0, .int .u8 0, .int .u8 0, .int .u8 0, .int .u8 0, .int .u8 0, .int .u8 0, .int .u8 0, .int .u8 0, .int .u8 0, .int .u8 0, .int .u8 0, .int .u8 0, .int .u8 0, .int .u8 0, .int .u8 0, .int .u8 0, .int .u8 0, .int .u8 0, .int .u8 0, .int .u8 0, .int .u8 0, .int .u8 0, .int .u8 0, .int .u8 0] 32)).alloc (.cells #[.string k, .string s] 9))
    (strs_cells (zs := [k, s]) (by have h := heap_alloc_new (w.alloc (.cells #[.int .u8 0, .int .u8 0, .int .u8 0, .int .u8 0, .int .u8 0, .int .u8 0, .int .u8 0, .int .u8 0, .int .u8 0, .int .u8 0, .int .u8 0, .int .u8 0, .int .u8 0, .int .u8 0, .int .u8 0, .int .u8 0, .int .u8 0, .int .u8 0, .int .u8 0, .int .u8 0, .int .u8 0, .int .u8 0, .int .u8 0, .int .u8 0, .int .u8 0, .int .u8 0, .int .u8 0, .int .u8 0, .int .u8 0, .int .u8 0, .int .u8 0, .int .u8 0] 32)) (.cells #[.string k, .string s] 9); simpa using h) (by unfold maxLen; simp)) (by rw [total_two]; omega) (by simp))
  have hsz : (S.joinB [k, s]).size ≤ 4194304 := by rw [sjoin_size, total_two]; simp only [List.length_cons, List.length_nil]; omega
  have Hsz := Lib.hid hsz
  go_enter Tryz.func45, Tryz.ntmps45
  go_wp2_with fail
  refine HS.out.mono ?_
  rintro e w1 ⟨rfl, hB1⟩
  replace HR := Lib.hid (HR.out.below hB1)
  obtain ⟨v, w2, hcv, hv, hB2⟩ := conv_made (S.joinB [k, s]) w1 (by omega)
  replace HR := Lib.hid (HR.out.below hB2)
  have HO := Lib.hid (S.dof_any v (S.bytesL (S.joinB [k, s])) w2 hv (S.bytesL_small _) (by rw [S.bytesL_len]; omega))
  clear hB1 hB2 HS hv
  go_wp2_with fail
  refine HO.out.mono ?_
  rintro e w3 ⟨rfl, hB3⟩
  obtain ⟨cs, hcs, hcz⟩ := (HR.out.below hB3).at_
  have HB1 := Lib.hid (HR.out.below hB3).b
  have hd : S.shaL (S.bytesL (S.joinB [k, s])) = dg k s := rfl
  rw [hd]
  have Hz := Lib.hid (size37 _ (dg_len k s))
  have Hone := Lib.hid (S.ints_one .u8 (dg k s))
  have Hs := Lib.hid (show (S.ints .u8 (dg k s)).size = 32 by rw [S.ints_size, dg_len])
  obtain ⟨R, hRe⟩ : ∃ R, R = S.ints .u8 (dg k s) := ⟨_, rfl⟩
  rw [← hRe] at Hz Hone Hs ⊢
  have HRe := Lib.hid hRe
  clear hRe
  clear hB3 hd HO HR
  go_wp2_with (first | (refine wpList_store_rowTo rfl 32 _ _ rfl rfl w.heap.size R rfl rfl 32 cs hcs Hz.out (by rw [hcz, Hs.out]) Hone.out ?_))
  exact bodyPost_ret (v := .agg R) (results_cell_row (fr := (0, 0)) rfl _ _ w.heap.size 32 _ _ rfl (setRow_heap _ _ _ R 32 (0, 0) hcs) Tryz.underlying32 rfl Hz.out) rfl ⟨by rw [HRe.out], below_setRow HB1.out (Nat.le_refl _) R⟩
/-- A thing: its kind, its name, its bytes. -/
abbrev Obj8 := ByteArray × (List UInt8 × (ByteArray × Unit))
def obV (o : Obj8) : List Value := .string o.1 :: (bytV o.2.1 ++ [.string o.2.2.1])
theorem obV_len {o : Obj8} (h : o.2.1.length = 32) : (obV o).length = 34 := by simp [obV, bytV_len, h]
theorem obV_one (o : Obj8) : ∀ u ∈ obV o, u.oneCell' = true := by
  intro u hu
  simp only [obV, bytV, List.mem_cons, List.mem_append, List.mem_map, List.not_mem_nil, or_false] at hu
  rcases hu with rfl | ⟨b, _, rfl⟩ | rfl <;> rfl
theorem eltO : Elt 50 96 34 64 obV := ⟨Tryz.underlying50, by kernel_rfl, info_elt (by kernel_rfl), by decide, obV_one⟩
theorem built_obj (parts : List (Nat × Value)) : Tryz.prog.built 96 parts = Instr.fill (fun i => (#[(0, 1), (1, 32), (33, 1)] : Array (Nat × Nat))[i]?) #[.string ⟨#[]⟩, .int .u8 0, .int .u8 0, .int .u8 0, .int .u8 0, .int .u8 0, .int .u8 0, .int .u8 0, .int .u8 0, .int .u8 0, .int .u8 0, .int .u8 0, .int .u8 0, .int .u8 0, .int .u8 0, .int .u8 0, .int .u8 0, .int .u8 0, .int .u8 0, .int .u8 0, .int .u8 0, .int .u8 0, .int .u8 0, .int .u8 0, .int .u8 0, .int .u8 0, .int .u8 0, .int .u8 0, .int .u8 0, .int .u8 0, .int .u8 0, .int .u8 0, .int .u8 0, .string ⟨#[]⟩] parts := by kernel_rfl
theorem foldl_size (off : Nat) : ∀ (l : List Value) (k : Nat) (cs : Array Value), ((l.zipIdx k).foldl (fun (cs : Array Value) (x : Value × Nat) => cs.setIfInBounds (off + x.2) x.1) cs).size = cs.size
  | [], k, cs => by simp
  | v :: l, k, cs => by
    rw [List.zipIdx_cons, List.foldl_cons, foldl_size off l (k + 1)]
    simp
theorem build_obj (w : World) (k s : ByteArray) (dv : List UInt8) (h : dv.length = 32) :
    (Instr.build 96 #[(0, .string k), (1, .agg (bytV dv).toArray), (2, .string s)]).run Tryz.prog w = .ok (.agg (obV (k, dv, s, ())).toArray) w := by
  refine run_build w 96 _ _ ?_
  rw [built_obj]
  have hb : (bytV dv).length = 32 := by rw [bytV_len, h]
  have e : (Value.agg (bytV dv).toArray).cells = (bytV dv).toArray := rfl
  have e1 : (Value.string k).cells = #[.string k] := rfl
  have e2 : (Value.string s).cells = #[.string s] := rfl
  simp only [Instr.fill, e, e1, e2, List.size_toArray, hb]
  simp
  refine ⟨by rw [foldl_size]; simp, ?_⟩
  apply Array.ext_getElem?
  intro i
  rw [Array.getElem?_setIfInBounds]
  have hf := foldl_get 1 (bytV dv) 0 (#[.string k, .int .u8 0, .int .u8 0, .int .u8 0, .int .u8 0, .int .u8 0, .int .u8 0, .int .u8 0, .int .u8 0, .int .u8 0, .int .u8 0, .int .u8 0, .int .u8 0, .int .u8 0, .int .u8 0, .int .u8 0, .int .u8 0, .int .u8 0, .int .u8 0, .int .u8 0, .int .u8 0, .int .u8 0, .int .u8 0, .int .u8 0, .int .u8 0, .int .u8 0, .int .u8 0, .int .u8 0, .int .u8 0, .int .u8 0, .int .u8 0, .int .u8 0, .int .u8 0, .string ⟨#[]⟩] : Array Value) i
  rw [hf, hb]
  match i with
  | 0 => simp [obV]
  | i + 1 =>
    rcases Nat.lt_trichotomy i 32 with hi | hi | hi
    · rw [if_neg (by omega), if_pos ⟨by omega, by omega, by simp; omega⟩]
      simp [obV]
      rw [List.getElem?_append_left (by omega)]
    · subst hi
      rw [if_pos (by omega), if_pos (by rw [foldl_size]; simp), List.getElem?_toArray]
      show some (Value.string s) = (.string k :: (bytV dv ++ [.string s]))[32 + 1]?
      rw [List.getElem?_cons_succ, List.getElem?_append_right (by omega), hb]
      rfl
    · rw [if_neg (by omega), if_neg (by omega), Array.getElem?_eq_none (by simp; omega)]
      symm
      apply Array.getElem?_eq_none
      rw [List.size_toArray, obV_len (o := (k, dv, s, ())) h]
      omega
def kid (k s : ByteArray) : List UInt8 := byL (dg k s)
theorem kid_len (k s : ByteArray) : (kid k s).length = 32 := by unfold kid; rw [byL_len, dg_len]
theorem kid_ints (k s : ByteArray) : S.ints .u8 (dg k s) = (bytV (kid k s)).toArray := byL_ints _ (dg_small _ _)
def sameO (o x : Obj8) : Bool := decide (x.1 = o.1) && decide (x.2.1 = o.2.1)
def putL (L : List Obj8) (o : Obj8) : List Obj8 := if L.any (sameO o) then L else L ++ [o]
theorem putL_len (L : List Obj8) (o : Obj8) : (putL L o).length ≤ L.length + 1 := by unfold putL; split <;> simp
/-- The document's store in memory; its blocks are T's. -/
structure RSt (T : Nat → Prop) (b : Nat) (L A : List Obj8) (w : World) : Prop where
  lt : ∀ q, T q → q < w.heap.size
  ok : (∀ o ∈ L, o.2.1.length = 32) ∧ (∀ o ∈ A, o.2.1.length = 32)
  f : ∃ lv av, w.heap[b]? = some (.cells #[lv, av] 52 (0, 0)) ∧ w.ownsRow 0 96 34 lv L.length (LF obV L) ∧ w.ownsRow 0 96 34 av A.length (LF obV A) ∧ T b ∧ (∀ q, lv.ownBlock = some q → T q) ∧ (∀ q, av.ownBlock = some q → T q) ∧ (∀ q, lv.ownBlock = some q → av.ownBlock ≠ some q)
theorem own_keep {w w' : World} {base e s : Nat} {v : Value} {n : Nat} {xs : List Value} {T : Nat → Prop} (h : w.ownsRow base e s v n xs) (hk : Kp T w w') (hT : ∀ q, v.ownBlock = some q → ¬ T q) : w'.ownsRow base e s v n xs :=
  own_same h (fun q _ h2 h3 => hk.block q h2 (hT q h3))
theorem RSt.below {T : Nat → Prop} {b : Nat} {L A : List Obj8} {w w' : World} (h : RSt T b L A w) (hB : Below w.heap.size w w') : RSt T b L A w' := by
  obtain ⟨hl, ho, lv, av, h1, h2, h3, h4⟩ := h
  exact ⟨fun q hq => Nat.lt_of_lt_of_le (hl q hq) hB.size, ho, lv, av, (hB.block _ (lt_of_block h1)).trans h1, gen_own_below h2 hB, gen_own_below h3 hB, h4⟩
theorem RSt.keep {T T2 : Nat → Prop} {b : Nat} {L A : List Obj8} {w w' : World} (h : RSt T b L A w) (hk : Kp T2 w w') (hd : ∀ q, T q → ¬ T2 q) : RSt T b L A w' := by
  obtain ⟨hl, ho, lv, av, h1, h2, h3, h4, h5, h6, h7⟩ := h
  exact ⟨fun q hq => Nat.lt_of_lt_of_le (hl q hq) hk.size, ho, lv, av, (hk.block _ (lt_of_block h1) (hd b h4)).trans h1, own_keep h2 hk (fun q hq => hd q (h5 q hq)), own_keep h3 hk (fun q hq => hd q (h6 q hq)), h4, h5, h6, h7⟩
theorem RSt.monoT {T T2 : Nat → Prop} {b : Nat} {L A : List Obj8} {w : World} (h : RSt T b L A w) (hT : ∀ q, T q → T2 q) (hl : ∀ q, T2 q → q < w.heap.size) : RSt T2 b L A w := by
  obtain ⟨_, ho, lv, av, h1, h2, h3, h4, h5, h6, h7⟩ := h
  exact ⟨hl, ho, lv, av, h1, h2, h3, hT b h4, fun q hq => hT q (h5 q hq), fun q hq => hT q (h6 q hq), h7⟩
def Rw (b : Nat) (xv : Value) : Nat → Prop := fun q => q = b ∨ xv.ownBlock = some q
structure FvO (b : Nat) (cs : Array Value) (L : List Obj8) (xv : Value) (w0 : World) (v : Value) (w : World) : Prop where
  e : v = xv
  o : w.ownsRow 0 96 34 xv L.length (LF obV L)
  g : w.heap[b]? = some (.cells cs 52 (0, 0))
  k : Kp (Rw b xv) w0 w
theorem FvO.st1 (b : Nat) (cs : Array Value) (L : List Obj8) (xv : Value) (w0 : World) : K3.St1 (FvO b cs L xv w0) := fun v w1 w2 h hB =>
  ⟨h.e, gen_own_below h.o hB, (hB.block _ (lt_of_block h.g)).trans h.g, h.k.trans (Kp.of_below hB)⟩
structure ApO (b : Nat) (cs : Array Value) (L : List Obj8) (xv : Value) (w0 : World) (v : Value) (w : World) : Prop where
  o : w.ownsRow 0 96 34 v L.length (LF obV L)
  g : w.heap[b]? = some (.cells cs 52 (0, 0))
  k : Kp (Rw b xv) w0 w
  wh : v.ownBlock = xv.ownBlock ∨ ∃ q, v.ownBlock = some q ∧ w0.heap.size ≤ q
theorem ApO.st1 (b : Nat) (cs : Array Value) (L : List Obj8) (xv : Value) (w0 : World) : K3.St1 (ApO b cs L xv w0) := fun v w1 w2 h hB =>
  ⟨gen_own_below h.o hB, (hB.block _ (lt_of_block h.g)).trans h.g, h.k.trans (Kp.of_below hB), h.wh⟩
structure StO (b i : Nat) (cs : Array Value) (L : List Obj8) (xv : Value) (w0 : World) (v : Value) (w : World) : Prop where
  f : ∃ u, w.ownsRow 0 96 34 u L.length (LF obV L) ∧ w.heap[b]? = some (.cells (cs.setIfInBounds i u) 52 (0, 0)) ∧ (u.ownBlock = xv.ownBlock ∨ ∃ q, u.ownBlock = some q ∧ w0.heap.size ≤ q)
  k : Kp (Rw b xv) w0 w
theorem StO.st1 (b i : Nat) (cs : Array Value) (L : List Obj8) (xv : Value) (w0 : World) : K3.St1 (StO b i cs L xv w0) := fun v w1 w2 h hB => by
  obtain ⟨u, h1, h2, h3⟩ := h.f
  exact ⟨⟨u, gen_own_below h1 hB, (hB.block _ (lt_of_block h2)).trans h2, h3⟩, h.k.trans (Kp.of_below hB)⟩
theorem out_store50 {o : Oper} {ρ : Operand → Value} {w : World} {φ : Value → World → Prop} {x y : Operand} {B i t : Nat} {p : Option Addr} {n c : Nat} {R : Array Value} (ho : o.op = .store 50 x y) (hx : ρ x = .pointer (some ⟨B, i, none⟩)) (hy : ρ y = .slice p n c)
    (hg : w.heap[B]? = some (.cells R t (0, 0))) (hi : i < R.size) (hφ : φ undef (w.setCell ⟨B, i, none⟩ (.slice p n c))) : K3.Out Tryz.prog o ρ w φ := by
  have hlt := (Array.getElem?_eq_some_iff.1 hg).1
  have hc : w.cell? ⟨B, i, none⟩ = some R[i] := by simp [World.cell?, hg, hi]
  have hf : w.frozen? ⟨B, i, none⟩ = false := by simp [World.frozen?, hg]
  have hw : (storeVar 50 ⟨B, i, none⟩ (.slice p n c)).run Tryz.prog w = .ok () (w.setCell ⟨B, i, none⟩ (.slice p n c)) := by
    simp [storeVar, go_sem, hc, hf]
  unfold K3.Out execOp
  simp only [ho, hx, hy, Instr.storeAt, Instr.sureAddr, Sem.run_bind, Sem.run_pure, Result.andThen_ok, hw]
  exact hφ
theorem own_setCell8 {w : World} {b i e s : Nat} {v u : Value} {n : Nat} {xs : List Value} {cs : Array Value} {t : TypeId} (h : w.ownsRow 0 e s v n xs) (hg : w.heap[b]? = some (.cells cs t (0, 0))) (hte : t ≠ e) : (w.setCell ⟨b, i, none⟩ u).ownsRow 0 e s v n xs :=
  own_same h (fun q _ h2 h3 => by
    rcases h.2 with ⟨hv, _⟩ | ⟨g, cap, cur, hv, _, hgg, _⟩
    · rw [hv] at h3; cases h3
    · rw [hv] at h3
      obtain rfl : g = q := by simpa [Value.ownBlock] using h3
      refine Below.heap_setCell _ _ _ _ (fun e1 => ?_)
      have e2 : g = b := e1
      rw [e2, hg] at hgg
      injection hgg with hgg
      injection hgg with _ h4 _
      exact hte h4)
theorem wpList_load_mid_g8 {ops : Array Oper} {rest : List Oper} {op : Oper} {a : Act} {w : World} {Q : Exit → Act → World → Prop} (hw : Region.wanted op (yielded ops a.tmps) = true) (ty : TypeId) (x : Operand) (ho : op.op = .load ty x)
    (b o : Nat) (hx : a.eval x = .pointer (some ⟨b, o, none⟩)) (cs : List Value) (d : TypeDesc) (hc : w.rangeAt b o cs)
    (hu : Tryz.prog.underlying ty = some d) (hd : d.isRow = true) (hi : (Tryz.prog.info? ty).map (·.size) = some cs.length)
    (h : wpList Tryz.prog ops Q rest (a.put op.dst (.agg cs.toArray)) w) : wpList Tryz.prog ops Q (op :: rest) a w :=
  Go.BigFrame.wpList_want hw fun _ hK => wp_load_mid ty x ho b o hx cs d hc hu hd hi (hK _ _ h)
end Go.Proofs.YtdhaanaenklleaaGreatDoor
