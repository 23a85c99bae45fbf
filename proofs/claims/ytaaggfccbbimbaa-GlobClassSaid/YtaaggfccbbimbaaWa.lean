/- Walks: the reader: is, sign, end. -/
import Derived.Test.YtaaggfccbbimbaaProg
import Derived.Test.YtaaggfccbbimbaaMa
import Derived.Test.YtaaggfccbbimbaaMb
import Derived.Test.YtaaggfccbbimbaaKt
import Derived.Test.YtaaggfccbbimbaaKr
import Derived.WalkKit
import Derived.ProofKit
import Derived.OpenShut
import Derived.WalkSpells
import Derived.WalkLawsBesides
import Derived.Below
import Derived.Deep.DeepFit
import Derived.RegionTactic
import Derived.ChangeAlike
import Derived.Deep.QuietTactic
import Derived.Deep.LoopGhost
import Derived.BigQuiet
import Derived.Laws.MakeOwn
import Derived.Laws.AppendOwn
import Derived.Deep.DeepMust
import Derived.Maps.AppendAt
namespace Go.Proofs.Ytaaggfccbbimbaa
set_option linter.unusedVariables false
open Go.ChangeShapes Go.WideShapes Go.ChangeAt Go.RowKit

/-- What is left of a pattern, in the reader's block. -/
def Rd (rb : Nat) (l : List UInt8) (w : World) : Prop := w.heap[rb]? = some (.cells #[.string (mkB l)] 38 (0, 0))
def IsEnd (rb : Nat) (r : Bool × List UInt8) (w : World) (e : Ending) (w' : World) : Prop := e = .returned (.bool r.1) ∧ Rd rb r.2 w' ∧ w.grownBy w' (some rb)
theorem grow_set (w : World) (rb i : Nat) (u : Value) : w.grownBy (w.setCell ⟨rb, i, none⟩ u) (some rb) :=
  ⟨rfl, rfl, rfl, by simp, fun k _ hk => Below.heap_setCell w _ u k (fun e => hk (by simp at e; rw [e]))⟩
theorem Rd.cells {rb : Nat} {l : List UInt8} {w : World} (h : Rd rb l w) : w.cell? ⟨rb, 0, none⟩ = some (.string (mkB l)) ∧ w.frozen? ⟨rb, 0, none⟩ = false :=
  ⟨by rw [block_cell h]; rfl, block_free h 0⟩
theorem Rd.set {rb : Nat} {l r : List UInt8} {w : World} (h : Rd rb l w) : Rd rb r (w.setCell ⟨rb, 0, none⟩ (.string (mkB r))) := by
  unfold Rd at h ⊢; rw [block_set h]; rfl

theorem is_empty (rb : Nat) (c : Int) (w : World) (h : Rd rb [] w) : Calls Try.prog 15 #[.pointer (some ⟨rb, 0, none⟩), .int .u8 c] w (IsEnd rb (false, []) w) := by
  have hc := h.cells.1
  have he : mkB [] = ⟨#[]⟩ := rfl
  rw [he] at hc
  have H := Lib.hid h
  clear h he
  go_enter Try.func15, Try.ntmps15
  go_wp2_with fail
  go_ret
  exact ⟨rfl, H.out, World.grownBy.refl _ _⟩
theorem is_cons (rb : Nat) (c x : UInt8) (n : Int) (hn : n = c.toNat) (l : List UInt8) (w : World) (h : Rd rb (x :: l) w) (hl : l.length ≤ 1099511627776) : Calls Try.prog 15 #[.pointer (some ⟨rb, 0, none⟩), .int .u8 n] w (IsEnd rb (isC c (x :: l)) w) := by
  obtain ⟨hc, hf⟩ := h.cells
  have H := Lib.hid h
  have hz : (mkB (x :: l)).size = l.length + 1 := by rw [mkB_size]; rfl
  have h0 : 0 < (mkB (x :: l)).size := by omega
  have hg : (mkB (x :: l))[0]'h0 = x := rfl
  have hx := mkB_tl x l
  rw [hz] at hx
  have Hx := Lib.hid hx
  have hne : (mkB (x :: l)).toList ≠ [] := by rw [Lib.toList_data, mkB_toList]; simp
  have hne2 : (mkB (x :: l)).toList.isEmpty = false := by rw [Lib.toList_data, mkB_toList]; rfl
  clear hx
  generalize hq : mkB (x :: l) = q at *
  clear hq h
  by_cases hxc : x = c
  · have Hi := Lib.hid (show isC c (x :: l) = (true, l) by rw [isC_cons, if_pos hxc])
    have hd : ((x.toNat : Int) == n) = true := by rw [hn, hxc]; simp
    have hd2 : ((x.toNat : Int) != n) = false := by rw [hn, hxc]; simp
    clear hn hxc
    go_enter Try.func15, Try.ntmps15
    go_wp2_with fail
    go_ret
    rw [Hi.out, Hx.out]
    exact ⟨rfl, H.out.set, grow_set _ _ _ _⟩
  · have Hi := Lib.hid (show isC c (x :: l) = (false, x :: l) by rw [isC_cons, if_neg hxc])
    have hd : ((x.toNat : Int) == n) = false := by rw [hn, beq_eq_false_iff_ne]; intro e; exact hxc (UInt8.toNat_inj.1 (by omega))
    have hd2 : ((x.toNat : Int) != n) = true := by simp [bne, hd]
    clear hn hxc
    go_enter Try.func15, Try.ntmps15
    go_wp2_with fail
    go_ret
    rw [Hi.out]
    exact ⟨rfl, H.out, World.grownBy.refl _ _⟩
theorem is_any (rb : Nat) (c : UInt8) (n : Int) (hn : n = c.toNat) (l : List UInt8) (w : World) (h : Rd rb l w) (hl : l.length ≤ 1099511627776) : Calls Try.prog 15 #[.pointer (some ⟨rb, 0, none⟩), .int .u8 n] w (IsEnd rb (isC c l) w) := by
  cases l with
  | nil => exact is_empty rb n w h
  | cons x l => exact is_cons rb c x n hn l w h (by simp at hl; omega)

def OptEnd (rb : Nat) (r : Option UInt8 × List UInt8) (w : World) (e : Ending) (w' : World) : Prop := ∃ b : Nat, e = .returned (.tuple #[.int .u8 b, .bool r.1.isSome]) ∧ (∀ c, r.1 = some c → b = c.toNat) ∧ Rd rb r.2 w' ∧ w.grownBy w' (some rb)
theorem signP_def (l : List UInt8) : signP l = match (isC 92 l).2 with | [] => (none, []) | x :: r => (some x, r) := rfl
theorem sign_any (rb : Nat) (l : List UInt8) (w : World) (h : Rd rb l w) (hl : l.length ≤ 1099511627776) : Calls Try.prog 17 #[.pointer (some ⟨rb, 0, none⟩)] w (OptEnd rb (signP l) w) := by
  have HI := Lib.hid (is_any rb 92 92 rfl l w h hl)
  have hlen := isC_len 92 l
  have hs := signP_def l
  generalize signP l = R at *
  generalize isC 92 l = ir at *
  obtain ⟨ok, l1⟩ := ir
  clear h
  cases l1 with
  | nil =>
    have Hs := Lib.hid hs
    clear hs hlen
    go_enter Try.func17, Try.ntmps17
    go_wp2_with fail
    refine HI.out.mono ?_
    rintro e w1 ⟨rfl, hR, hG⟩
    have hc := hR.cells.1
    rw [show mkB [] = ⟨#[]⟩ from rfl] at hc
    have HR := Lib.hid hR
    have HG := Lib.hid hG
    clear hR hG
    go_wp2_with fail
    go_ret2
    rw [Hs.out]
    exact ⟨0, rfl, (by simp), HR.out, HG.out⟩
  | cons x r =>
    have Hs := Lib.hid hs
    have hz : (mkB (x :: r)).size = r.length + 1 := by rw [mkB_size]; rfl
    have h0 : 0 < (mkB (x :: r)).size := by omega
    have hg : (mkB (x :: r))[0]'h0 = x := rfl
    have hx := mkB_tl x r
    rw [hz] at hx
    have Hx := Lib.hid hx
    have hne : (mkB (x :: r)).toList ≠ [] := by rw [Lib.toList_data, mkB_toList]; simp
    have hne2 : (mkB (x :: r)).toList.isEmpty = false := by rw [Lib.toList_data, mkB_toList]; rfl
    have hrl : r.length ≤ 1099511627776 := by simp at hlen; omega
    clear hs hlen hx
    go_enter Try.func17, Try.ntmps17
    go_wp2_with fail
    refine HI.out.mono ?_
    rintro e w1 ⟨rfl, hR, hG⟩
    obtain ⟨hc, hf⟩ := hR.cells
    simp only at hc
    have HR := Lib.hid hR
    have HG := Lib.hid hG
    clear hR hG
    generalize hq : mkB (x :: r) = q at *
    clear hq
    go_wp2_with fail
    go_ret2
    rw [Hs.out, Hx.out]
    exact ⟨x.toNat, rfl, (by intro c hc; cases hc; rfl), HR.out.set, HG.out.trans (grow_set _ _ _ _)⟩
theorem endP_stop (x : UInt8) (r : List UInt8) (h : x = 93 ∨ x = 45) : endP (x :: r) = (none, x :: r) := by show (if x = 93 ∨ x = 45 then _ else _) = _; rw [if_pos h]
theorem endP_go (l : List UInt8) (h : ∀ x r, l = x :: r → ¬ (x = 93 ∨ x = 45)) : endP l = signP l := by
  cases l with
  | nil => rfl
  | cons x r => show (if x = 93 ∨ x = 45 then _ else _) = _; rw [if_neg (h x r rfl)]
theorem u8_ne {x : UInt8} {n : Nat} (h : n < 256) (hx : x ≠ UInt8.ofNat n) : ((x.toNat : Int) == (n : Int)) = false := by
  rw [beq_eq_false_iff_ne]; intro e; exact hx (UInt8.toNat_inj.1 (by rw [UInt8.toNat_ofNat', Nat.mod_eq_of_lt (by omega)]; omega))
theorem end_any (rb : Nat) (l : List UInt8) (w : World) (h : Rd rb l w) (hl : l.length ≤ 1099511627776) : Calls Try.prog 20 #[.pointer (some ⟨rb, 0, none⟩)] w (OptEnd rb (endP l) w) := by
  have HS := Lib.hid (sign_any rb l w h hl)
  cases l with
  | nil =>
    rw [endP_go [] (by simp)]
    have hc := h.cells.1
    rw [show mkB [] = ⟨#[]⟩ from rfl] at hc
    generalize signP [] = R at *
    clear h
    go_enter Try.func20, Try.ntmps20
    go_wp2_with fail
    refine HS.out.mono ?_
    rintro e w1 ⟨b, rfl, hb, hR, hG⟩
    have HR := Lib.hid hR
    have HG := Lib.hid hG
    have Hb := Lib.hid hb
    clear hR hG hb
    go_wp2_with fail
    go_ret2
    exact ⟨b, rfl, Hb.out, HR.out, HG.out⟩
  | cons x r =>
    have hz : (mkB (x :: r)).size = r.length + 1 := by rw [mkB_size]; rfl
    have h0 : 0 < (mkB (x :: r)).size := by omega
    have hg : (mkB (x :: r))[0]'h0 = x := rfl
    have hne : (mkB (x :: r)).toList ≠ [] := by rw [Lib.toList_data, mkB_toList]; simp
    have hne2 : (mkB (x :: r)).toList.isEmpty = false := by rw [Lib.toList_data, mkB_toList]; rfl
    obtain ⟨hc, hf⟩ := h.cells
    have H := Lib.hid h
    clear h
    generalize hq : mkB (x :: r) = q at *
    clear hq
    by_cases h1 : x = 93
    · have He := Lib.hid (endP_stop x r (.inl h1))
      subst h1
      have hd : (((93 : UInt8).toNat : Int) == 93) = true := rfl
      clear HS
      go_enter Try.func20, Try.ntmps20
      go_wp2_with fail
      go_ret2
      rw [He.out]
      exact ⟨0, rfl, (by simp), H.out, World.grownBy.refl _ _⟩
    · have hd : ((x.toNat : Int) == (93 : Int)) = false := u8_ne (n := 93) (by omega) h1
      by_cases h2 : x = 45
      · have He := Lib.hid (endP_stop x r (.inr h2))
        subst h2
        clear HS h1
        have hd2 : (((45 : UInt8).toNat : Int) == 45) = true := rfl
        go_enter Try.func20, Try.ntmps20
        go_wp2_with fail
        go_ret2
        rw [He.out]
        exact ⟨0, rfl, (by simp), H.out, World.grownBy.refl _ _⟩
      · have hd2 : ((x.toNat : Int) == (45 : Int)) = false := u8_ne (n := 45) (by omega) h2
        rw [endP_go (x :: r) (by intro y t e; cases e; exact fun h => h.elim h1 h2)]
        generalize signP (x :: r) = R at *
        clear h1 h2
        go_enter Try.func20, Try.ntmps20
        go_wp2_with fail
        refine HS.out.mono ?_
        rintro e w1 ⟨b, rfl, hb, hR, hG⟩
        have HR := Lib.hid hR
        have HG := Lib.hid hG
        have Hb := Lib.hid hb
        clear hR hG hb
        go_wp2_with fail
        go_ret2
        exact ⟨b, rfl, Hb.out, HR.out, HG.out⟩
end Go.Proofs.Ytaaggfccbbimbaa
