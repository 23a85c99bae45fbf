/- Walks: the document's terms, lines and what is put between texts. -/
import Derived.Test.YtfkmijdpcenieaaDoorRb
namespace Go.Proofs.YtfkmijdpcenieaaDoor
set_option linter.unusedVariables false
open Go.ChangeShapes Go.WideShapes Go.ChangeAt Go.RowKit

def isNot (t : ByteArray) : Bool := match t.data.toList with | 33 :: _ => true | _ => false
theorem trim_no {t : ByteArray} (h : isNot t = false) : trimB t = t := by
  unfold isNot at h
  unfold trimB Lib.trimPrefix
  cases hl : t.data.toList with
  | nil => exact ba_ext (by rw [mkB_toList, hl]; rfl)
  | cons a r =>
    rw [hl] at h
    have ha : a ≠ 33 := fun e => by subst e; simp at h
    have hp : Lib.hasPrefix (a :: r) [33] = false := by
      simp only [Lib.hasPrefix, List.isPrefixOf, Bool.and_true, beq_eq_false_iff_ne]
      exact fun e => ha e.symm
    rw [hp]
    exact ba_ext (by rw [mkB_toList, hl]; rfl)
theorem trim_yes {t : ByteArray} (h : isNot t = true) : trimB t = t.extract 1 t.size ∧ ∃ r, t.data.toList = 33 :: r := by
  unfold isNot at h
  cases hl : t.data.toList with
  | nil => rw [hl] at h; simp at h
  | cons a r =>
    rw [hl] at h
    have ha : a = 33 := by
      by_cases e : a = 33
      · exact e
      · exfalso
        revert h
        split
        · rename_i heq; exact fun _ => e (List.cons.inj heq).1
        · simp
    subst ha
    refine ⟨?_, r, rfl⟩
    unfold trimB Lib.trimPrefix
    apply ba_ext
    rw [mkB_toList, Lib.extract_data, hl]
    have hp : Lib.hasPrefix (33 :: r) [33] = true := by simp [Lib.hasPrefix, List.isPrefixOf]
    rw [hp]
    have hs : t.size = r.length + 1 := by rw [← ba_len, hl]; rfl
    simp [hs]
theorem trim_size (t : ByteArray) : (trimB t).size ≤ t.size := by
  unfold trimB
  rw [mkB_size]
  have : (Lib.trimPrefix t.data.toList [33]).length ≤ t.data.toList.length := by unfold Lib.trimPrefix; split <;> simp
  rw [ba_len] at this
  exact this
theorem first_is (t : ByteArray) (h : 0 < t.size) : t.data.toList = t[0]'h :: t.data.toList.drop 1 := by
  have hl : 0 < t.data.toList.length := by rw [ba_len]; exact h
  have := List.drop_eq_getElem_cons (l := t.data.toList) (i := 0) hl
  rw [List.drop_zero] at this
  exact this

set_option maxHeartbeats 400000 in
theorem rterm_any (t : ByteArray) (w : World) (hs : t.size ≤ 1073741824) :
    Calls Tryd.prog 29 #[.string t] w fun e w' => e = .returned (.tuple #[.string (trimB t), .bool (isNot t), .bool (okT t)]) ∧ w = w' := by
  have HG := Lib.hid (fun w1 => refTag_any (trimB t) w1 (by have := trim_size t; omega))
  rw [show tagB (trimB t) = okT t from rfl] at HG
  cases hn : isNot t with
  | true =>
    obtain ⟨h1, r, h2⟩ := trim_yes hn
    have hz : 0 < t.size := by rw [← ba_len, h2]; simp
    have h3 := first_is t hz
    rw [h2] at h3
    have h4 : t[0]'hz = 33 := (List.cons.inj h3).1.symm
    have hc : (((t[0]'hz).toNat : Int) == 33) = true := by rw [h4]; rfl
    have hzI : (0 : Int) < (t.size : Int) := by omega
    rw [h1] at HG ⊢
    generalize okT t = k at *
    have H1 := Lib.hid h1
    clear h1 h2 h3 h4 hn
    go_enter Tryd.func29, Tryd.ntmps29
    go_wp2_with fail
    refine (HG.out _).mono ?_
    rintro e w1 ⟨rfl, rfl⟩
    go_wp2_with fail
    go_ret3
    exact ⟨rfl, rfl⟩
  | false =>
    have h1 := trim_no hn
    rw [h1] at HG ⊢
    generalize okT t = k at *
    by_cases hz : 0 < t.size
    · have hzI : (0 : Int) < (t.size : Int) := by omega
      have h3 := first_is t hz
      have h4 : ¬ t[0]'hz = 33 := fun e => by
        unfold isNot at hn
        rw [h3, e] at hn
        simp at hn
      have hc : (((t[0]'hz).toNat : Int) == 33) = false := by
        rw [beq_eq_false_iff_ne]; intro e; exact h4 (UInt8.toNat_inj.1 (by show _ = 33; omega))
      clear h1 h3 h4 hn
      go_enter Tryd.func29, Tryd.ntmps29
      go_wp2_with fail
      refine (HG.out _).mono ?_
      rintro e w1 ⟨rfl, rfl⟩
      go_wp2_with fail
      go_ret3
      exact ⟨rfl, rfl⟩
    · have hzI : ¬ (0 : Int) < (t.size : Int) := by omega
      clear h1 hn
      go_enter Tryd.func29, Tryd.ntmps29
      go_wp2_with fail
      refine (HG.out _).mono ?_
      rintro e w1 ⟨rfl, rfl⟩
      go_wp2_with fail
      go_ret3
      exact ⟨rfl, rfl⟩

theorem join_snoc (L : List ByteArray) (k : Nat) (h : k + 1 < L.length) (sep : List UInt8) : Lib.join ((L.take (k + 1 + 1)).map (·.data.toList)) sep = Lib.join ((L.take (k + 1)).map (·.data.toList)) sep ++ sep ++ (L.getD (k + 1) ByteArray.empty).data.toList := by
  have key : ∀ (M : List (List UInt8)) (y : List UInt8), M ≠ [] → Lib.join (M ++ [y]) sep = Lib.join M sep ++ sep ++ y := by
    intro M y
    induction M with
    | nil => intro h; exact absurd rfl h
    | cons a r ih =>
      intro _
      cases r with
      | nil => simp [Lib.join]
      | cons b q =>
        have e1 : Lib.join ((a :: b :: q) ++ [y]) sep = a ++ sep ++ Lib.join ((b :: q) ++ [y]) sep := by simp [Lib.join]
        have e2 : Lib.join (a :: b :: q) sep = a ++ sep ++ Lib.join (b :: q) sep := by simp [Lib.join]
        rw [e1, ih (by simp), e2]
        simp [List.append_assoc]
  rw [List.take_succ_eq_append_getElem h, List.map_append, List.map_cons, List.map_nil, key _ _ (by
    intro e
    have := congrArg List.length e
    rw [List.length_map, List.length_take] at this
    simp only [List.length_nil] at this
    omega)]
  simp only [List.getD_eq_getElem?_getD, List.getElem?_eq_getElem h, Option.getD_some]
def joinP (L : List ByteArray) (sep : ByteArray) (k : Nat) : ByteArray := mkB (Lib.join ((L.take (k + 1)).map (·.data.toList)) sep.data.toList)
theorem joinP_zero (L : List ByteArray) (sep : ByteArray) (h : 0 < L.length) : joinP L sep 0 = L.getD 0 ByteArray.empty := by
  unfold joinP
  cases L with
  | nil => exact absurd h (by simp)
  | cons a r => simp [Lib.join, mkB_data]
theorem joinP_succ (L : List ByteArray) (sep : ByteArray) (k : Nat) (h : k + 1 < L.length) : joinP L sep (k + 1) = joinP L sep k ++ sep ++ L.getD (k + 1) ByteArray.empty := by
  unfold joinP
  rw [join_snoc L k h]
  apply ba_ext
  rw [ba_append, ba_append, mkB_toList, mkB_toList]
theorem joinP_all (L : List ByteArray) (sep : ByteArray) (k : Nat) (h : k + 1 = L.length) : joinP L sep k = mkB (Lib.join (L.map (·.data.toList)) sep.data.toList) := by
  unfold joinP
  rw [h, List.take_length]
theorem sums_take (L : List ByteArray) : ∀ k, sums (L.take k) ≤ sums L := by
  induction L with
  | nil => intro k; simp
  | cons a r ih =>
    intro k
    cases k with
    | zero => simp [sums]
    | succ k => simp only [List.take_succ_cons, sums]; have := ih k; omega
theorem joinP_size (L : List ByteArray) (sep : ByteArray) (k : Nat) (h : k < L.length) : (joinP L sep k).size ≤ sums L + L.length * sep.size := by
  unfold joinP
  rw [mkB_size]
  have h1 := join_len (L.take (k + 1)) sep.data.toList
  have h2 := sums_take L (k + 1)
  rw [ba_len, List.length_take] at h1
  have h3 : min (k + 1) L.length * sep.size ≤ L.length * sep.size := Nat.mul_le_mul_right _ (Nat.min_le_right _ _)
  omega

set_option maxHeartbeats 1000000 in
theorem wrap_any (v : Value) (L : List ByteArray) (sep : ByteArray) (w : World) (hv : Strs w v L) (h0 : 0 < L.length) (hz : sums L + L.length * sep.size ≤ 1073741824) (hl : L.length ≤ 1073741824) (hsz : sep.size ≤ 1073741824) :
    Calls Tryd.prog 27 #[v, .string sep] w fun e w' => e = .returned (.string (wrapB sep L)) ∧ w = w' := by
  rcases hv with ⟨⟨pz, cz, rfl⟩, rfl⟩ | ⟨b, off, cap, rfl, hcap, hmax, hb, hcell⟩
  · exact absurd h0 (by simp)
  · have hxm := sums_mem L
    obtain ⟨n, hn⟩ : ∃ n, n = L.length := ⟨_, rfl⟩
    rw [← hn] at hcap hcell h0 hz hl ⊢
    have Hn := Lib.hid hn
    unfold maxLen at hmax
    have hc0 := hcell 0 h0
    rw [Nat.add_zero] at hc0
    have hP0 := joinP_zero L sep (by omega)
    have Hz := Lib.hid (fun k (hk : k < L.length) => joinP_size L sep k hk)
    have HC := Lib.hid hcell
    rw [← hP0] at hc0
    have hpz := joinP_size L sep 0 (by omega)
    clear hcell hP0
    have Hb := Lib.hid hb
    obtain ⟨p0, hp0⟩ : ∃ p, p = joinP L sep 0 := ⟨_, rfl⟩
    rw [← hp0] at hc0 hpz
    have hcapI : (1 : Int) ≤ (cap : Int) := by omega
    have hsumz : sums L + L.length * sep.size ≤ 1073741824 := by rw [← Hn.out]; exact hz
    by_cases h1 : n = 1
    · have Hw := Lib.hid (wrap_one (sep := sep) (L := L) (by omega))
      have hPe := joinP_zero L sep (by omega)
      rw [← hPe, ← hp0] at Hw
      clear hPe hp0 hn Hn
      subst h1
      go_enter Tryd.func27, Tryd.ntmps27
      go_wp2_with fail
      all_goals
        go_loopg [5, 7, 14] 0 (fun g sv vv iv wr => sv = .string p0 ∧ iv = .int .i64 0 ∧ vv = undef ∧ wr = w)
        case atStart => exact ⟨rfl, rfl, rfl, rfl⟩
        case round =>
          obtain ⟨rfl, rfl, rfl, rfl⟩ := hrel
          go_wp2_with fail
          go_ret
          exact ⟨by rw [Hw.out]; rfl, rfl⟩
    · have hn2 : 2 ≤ n := by omega
      have hcap2 : ¬ cap = 1 := by omega
      have Hw := Lib.hid (wrap_many (sep := sep) (L := L) (by omega))
      rw [← joinP_all L sep (n - 1) (by omega)] at Hw
      have hnI1 : (1 : Int) < (n : Int) := by omega
      have hcap2I : (2 : Int) ≤ (cap : Int) := by omega
      have hns : ((n - 1 : Nat) : Int) = (n : Int) - 1 := by omega
      clear hn
      go_enter Tryd.func27, Tryd.ntmps27
      go_wp2_with fail
      go_loopg [5, 7, 14] (n - 1) (fun g sv _ iv wr => ∃ k : Nat, k + g = n - 1 ∧ iv = .int .i64 k ∧ sv = .string (joinP L sep k) ∧ wr = w)
      case atStart => exact ⟨0, by omega, rfl, rfl, rfl⟩
      case round =>
        obtain ⟨k, hkg, rfl, rfl, rfl⟩ := hrel
        by_cases hlt : k < n - 1
        · have hltI : (k : Int) < (n : Int) - 1 := by omega
          have hk1 : k + 1 < L.length := by have := Hn.out; omega
          have hcx := HC.out (k + 1) (by omega)
          rw [show off + (k + 1) = off + 1 + k by omega] at hcx
          have hps := joinP_succ L sep k hk1
          have hz1 := Hz.out (k + 1) hk1
          have hz2 := Hz.out k (by omega)
          have hxz := sums_mem L _ (getD_mem hk1)
          have Hps := Lib.hid hps
          clear hps
          generalize L.getD (k + 1) ByteArray.empty = x at *
          obtain ⟨p, hp⟩ : ∃ p, p = joinP L sep k := ⟨_, rfl⟩
          rw [← hp] at hz2 Hps ⊢
          have hpz2 : p.size ≤ 1073741824 := by omega
          have hxz2 : x.size ≤ 1073741824 := by omega
          clear hz1 hz2 hxz
          have hA : (p ++ sep ++ x).size ≤ 1073741824 := by rw [← Hps.out]; have := Hz.out (k + 1) hk1; omega
          have hA3 : p.size + sep.size ≤ 2147483648 := by omega
          have hA2 : (p ++ sep).size ≤ 1073741824 := by rw [ByteArray.size_append] at hA; omega
          clear hz hsumz hpz hp
          go_wp2_with fail
          go_roundg (gk - 1)
          case measure => omega
          case rel => exact ⟨k + 1, by omega, by go_num, by rw [Hps.out], rfl⟩
        · obtain rfl : k = n - 1 := by omega
          have hz1 := Hz.out (n - 1) (by have := Hn.out; omega)
          generalize joinP L sep (n - 1) = p at *
          have hpz2 : p.size ≤ 1073741824 := by omega
          have hnlt : ¬ ((n - 1 : Nat) : Int) < (n : Int) - 1 := by omega
          have hA : ((⟨#[40]⟩ : ByteArray) ++ p).size ≤ 1073741825 := by rw [ByteArray.size_append]; show 1 + _ ≤ _; omega
          go_wp2_with fail
          go_ret
          exact ⟨by rw [Hw.out]; rfl, rfl⟩
end Go.Proofs.YtfkmijdpcenieaaDoor
