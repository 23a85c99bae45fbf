/- Walks: an act, whatever it does. -/
import Derived.Test.YtfmcemedaehcoaaWe
namespace Go.Proofs.Ytfmcemedaehcoaa
set_option linter.unusedVariables false
set_option linter.unusedSimpArgs false
open Go.ChangeShapes Go.WideShapes Go.ChangeAt Go.RowKit

def doesB (stays keep : Int) : Bool := decide (stays = 0) || (decide (stays = 1) && decide (0 < keep))
/-- What an act leads to: E is what the doing leads to. -/
structure ActR (S : Nat → Prop) (b : Nat) (h : Hd) (L : List Fl) (stays : Int) (E : List Fl → Prop) (w : World) (e : Ending) (w' : World) : Prop where
  r : (h.left ≠ 1 ∧ e = .returned (.int .i64 0) ∧ ∃ L2, E L2 ∧ Dev (Gr S w w') b ⟨h.room, h.acts + 1, false, max (h.left - 1) 0, h.keep, h.torn⟩ L2 w') ∨
    (h.left = 1 ∧ e = .returned (.int .i64 7) ∧ ∃ L2, (if doesB stays h.keep = true then E L2 else L2 = L) ∧ Dev (Gr S w w') b ⟨h.room, h.acts + 1, true, 0, 0, false⟩ (L2.map (loseF h.keep h.torn)) w')
  k : Kept S w w'
/-- What the doing does. -/
def Does (S : Nat → Prop) (b : Nat) (L : List Fl) (E : List Fl → Prop) (fn : FuncId) (caps : Array Value) (w : World) : Prop :=
  ∀ w1 h1, Dev S b h1 L w1 → Kept S w w1 → Calls Try.prog fn caps w1 fun e w2 => e = .returned (.tuple #[]) ∧ ∃ L2, E L2 ∧ Dev (Gr S w1 w2) b h1 L2 w2 ∧ Kept S w1 w2
set_option maxRecDepth 100000 in
set_option maxHeartbeats 4000000 in
theorem act_any {S : Nat → Prop} {b : Nat} {h : Hd} {L : List Fl} {w : World} (d : Dev S b h L w) (hdn : h.down = false) (hl : 0 ≤ h.left ∧ h.left ≤ 9223372036854775807) (ha : 0 ≤ h.acts ∧ h.acts ≤ 1099511627776) (stays : Int) (E : List Fl → Prop) (fn : FuncId) (caps : Array Value)
    (hcf : ∀ w1, (callFunc fn caps).run Try.prog w1 = .ok (.enter fn caps) w1) (hdo : Does S b L E fn caps w) (hE : ∀ L2, E L2 → ∀ f ∈ L2, f.d.length ≤ 16777216) (hL : ∀ f ∈ L, f.d.length ≤ 16777216) :
    Calls Try.prog 46 #[.pointer (some ⟨b, 0, none⟩), .int .i64 stays, .func (.func fn) #[] caps] w (ActR S b h L stays E w) := by
  have HD := Lib.hid d
  have Hdo := Lib.hid hdo
  have HE := Lib.hid hE
  have HL := Lib.hid hL
  obtain ⟨mb, hb, _, _, _, hSb, _⟩ := d.f
  obtain ⟨room, acts, down, left, keep, torn⟩ := h
  obtain rfl : down = false := hdn
  have hl0 : 0 ≤ left := hl.1
  have hl1 : left ≤ 9223372036854775807 := hl.2
  have ha0 : 0 ≤ acts := ha.1
  have ha1 : acts ≤ 1099511627776 := ha.2
  have c2 : w.cell? ⟨b, 2, none⟩ = some (.int .i64 acts) := block_cell hb 2
  have f2 := block_free hb 2
  have hb2 := block_set (i := 2) (u := .int .i64 (acts + 1)) hb
  have c4 : (w.setCell ⟨b, 2, none⟩ (.int .i64 (acts + 1))).cell? ⟨b, 4, none⟩ = some (.int .i64 left) := block_cell hb2 4
  have f4 := block_free hb2 4
  clear d hdo hE hL hl ha
  rcases (by omega : left = 0 ∨ left = 1 ∨ 2 ≤ left) with hx | hx | hx
  · subst hx
    have HD1 := Lib.hid (show Dev S b ⟨room, acts + 1, false, 0, keep, torn⟩ L ((w.setCell ⟨b, 2, none⟩ (.int .i64 (acts + 1))).setCell ⟨b, 4, none⟩ (.int .i64 (0))) from HD.out.setH (fun mb2 hb9 => block_set (i := 4) (u := .int .i64 (0)) (block_set (i := 2) (u := .int .i64 (acts + 1)) hb9)) (fun k _ hk => by rw [set_other _ _ _ _ _ hk, set_other _ _ _ _ _ hk]))
    have HK1 := Lib.hid (((Kept.refl S w).setCell (.inl hSb) 2 (.int .i64 (acts + 1))).setCell (.inl hSb) 4 (.int .i64 (0)))
    have HZ1 : Hid (((w.setCell ⟨b, 2, none⟩ (.int .i64 (acts + 1))).setCell ⟨b, 4, none⟩ (.int .i64 (0))).heap.size = w.heap.size) := Lib.hid (by simp [World.setCell])
    have HC := Lib.hid (Hdo.out _ _ HD1.out HK1.out)
    clear hb hb2
    go_enter Try.func46, Try.ntmps46
    go_wp2_with fail
    refine HC.out.mono ?_
    rintro e1 w2 ⟨rfl, L2, hE2, hD2, hK2⟩
    have HR := Lib.hid (show ActR S b ⟨room, acts, false, 0, keep, torn⟩ L stays E w (.returned (.int .i64 0)) w2 from
      ⟨.inl ⟨by show (0 : Int) ≠ 1; omega, rfl, L2, hE2, by
        have hm : max ((0 : Int) - 1) 0 = 0 := by omega
        show Dev (Gr S w w2) b ⟨room, acts + 1, false, max ((0 : Int) - 1) 0, keep, torn⟩ L2 w2
        rw [hm]
        exact hD2.mono (fun k hk => hk.imp id (fun hk => by rw [HZ1.out] at hk; exact hk))⟩, HK1.out.trans' hK2⟩)
    clear hE2 hD2 hK2
    go_wp2_with fail
    go_ret
    exact HR.out
  · subst hx
    have HD1 := Lib.hid (show Dev S b ⟨room, acts + 1, false, 1, keep, torn⟩ L (w.setCell ⟨b, 2, none⟩ (.int .i64 (acts + 1))) from HD.out.setH (fun mb2 hb9 => block_set (i := 2) (u := .int .i64 (acts + 1)) hb9) (fun k _ hk => by rw [set_other _ _ _ _ _ hk]))
    have HK1 := Lib.hid ((Kept.refl S w).setCell (.inl hSb) 2 (.int .i64 (acts + 1)))
    have HZ1 : Hid ((w.setCell ⟨b, 2, none⟩ (.int .i64 (acts + 1))).heap.size = w.heap.size) := Lib.hid (by simp [World.setCell])
    have e5 : (w.setCell ⟨b, 2, none⟩ (.int .i64 (acts + 1))).cell? ⟨b, 5, none⟩ = some (.int .i64 keep) := block_cell hb2 5
    have e6 : (w.setCell ⟨b, 2, none⟩ (.int .i64 (acts + 1))).cell? ⟨b, 6, none⟩ = some (.bool torn) := block_cell hb2 6
    have Hb2 := Lib.hid hb2
    clear hb hb2 f4
    go_enter Try.func46, Try.ntmps46
    go_wp2_with fail
    go_quiet (fail)
    have HDn := Lib.hid (HD1.out.below (below_drewN (Below.refl _ _) nq))
    have HKn := Lib.hid (HK1.out.trans' (Kept.of_below (S := S) (below_drewN (Below.refl _ _) nq)))
    have HZn : Hid (((w.setCell ⟨b, 2, none⟩ (.int .i64 (acts + 1))).drewN nq).heap.size = w.heap.size) := Lib.hid HZ1.out
    generalize (w.setCell ⟨b, 2, none⟩ (.int .i64 (acts + 1))).drewN nq = w1 at *
    clear c2 f2 c4 e5 e6 Hb2 HD1 HK1 HZ1
    by_cases s0 : stays = 0
    · subst s0
      have HC := Lib.hid (Hdo.out _ _ HDn.out HKn.out)
      go_wp2_with fail
      refine HC.out.mono ?_
      rintro e1 w2 ⟨rfl, L2, hE2, hD2, hK2⟩
      have HE2 := Lib.hid hE2
      have HD2 := Lib.hid hD2
      have HK2 := Lib.hid hK2
      clear hE2 hD2 hK2
      have HO := Lib.hid (off_any HD2.out rfl keep torn (HE.out L2 HE2.out))
      go_wp2_with fail
      refine HO.out.mono ?_
      rintro e3 w3 ⟨rfl, hD3, hK3⟩
      have HR := Lib.hid (show ActR S b ⟨room, acts, false, 1, keep, torn⟩ L 0 E w (.returned (.int .i64 7)) w3 from
        ⟨.inr ⟨rfl, rfl, L2, by rw [show doesB 0 keep = true from by unfold doesB; simp, if_pos rfl]; exact HE2.out, by
          have hz2 := HK2.out.size
          have hz3 := hK3.size
          have hzn := HZn.out
          exact hD3.mono (fun k hk => by
            rcases hk with hk | hk
            · exact .inl hk
            · exact .inr ⟨by omega, by omega⟩)⟩, HKn.out.trans' (HK2.out.trans hK3)⟩)
      clear hD3 hK3
      go_wp2_with fail
      go_ret
      exact HR.out
    by_cases s1 : stays = 1
    · subst s1
      by_cases hk : 0 < keep
      · have hkd : doesB 1 keep = true := by unfold doesB; simp [hk]
        have Hkd := Lib.hid hkd
        clear hkd
        have HC := Lib.hid (Hdo.out _ _ HDn.out HKn.out)
        go_wp2_with fail
        refine HC.out.mono ?_
        rintro e1 w2 ⟨rfl, L2, hE2, hD2, hK2⟩
        have HE2 := Lib.hid hE2
        have HD2 := Lib.hid hD2
        have HK2 := Lib.hid hK2
        clear hE2 hD2 hK2
        have HO := Lib.hid (off_any HD2.out rfl keep torn (HE.out L2 HE2.out))
        go_wp2_with fail
        refine HO.out.mono ?_
        rintro e3 w3 ⟨rfl, hD3, hK3⟩
        have HR := Lib.hid (show ActR S b ⟨room, acts, false, 1, keep, torn⟩ L 1 E w (.returned (.int .i64 7)) w3 from
          ⟨.inr ⟨rfl, rfl, L2, by rw [show doesB 1 keep = true from Hkd.out, if_pos rfl]; exact HE2.out, by
            have hz2 := HK2.out.size
            have hz3 := hK3.size
            have hzn := HZn.out
            exact hD3.mono (fun k hk => by
              rcases hk with hk | hk
              · exact .inl hk
              · exact .inr ⟨by omega, by omega⟩)⟩, HKn.out.trans' (HK2.out.trans hK3)⟩)
        clear hD3 hK3
        go_wp2_with fail
        go_ret
        exact HR.out
      · have hkd : doesB 1 keep = false := by unfold doesB; simp [hk]
        have Hkd := Lib.hid hkd
        clear hkd
        have HO := Lib.hid (off_any HDn.out rfl keep torn HL.out)
        go_wp2_with fail
        refine HO.out.mono ?_
        rintro e3 w3 ⟨rfl, hD3, hK3⟩
        have HR := Lib.hid (show ActR S b ⟨room, acts, false, 1, keep, torn⟩ L 1 E w (.returned (.int .i64 7)) w3 from
          ⟨.inr ⟨rfl, rfl, L, by rw [show doesB 1 keep = false from Hkd.out, if_neg (by decide)], hD3.mono (fun k hk => .inl hk)⟩, HKn.out.trans' hK3⟩)
        clear hD3 hK3
        go_wp2_with fail
        go_ret
        exact HR.out
    · have hkd : doesB stays keep = false := by unfold doesB; simp [s0, s1]
      have Hkd := Lib.hid hkd
      have u0 : (stays == 0) = false := beq_eq_false_iff_ne.2 s0
      have u1 : (stays == 1) = false := beq_eq_false_iff_ne.2 s1
      clear hkd
      have HO := Lib.hid (off_any HDn.out rfl keep torn HL.out)
      go_wp2_with fail
      refine HO.out.mono ?_
      rintro e3 w3 ⟨rfl, hD3, hK3⟩
      have HR := Lib.hid (show ActR S b ⟨room, acts, false, 1, keep, torn⟩ L stays E w (.returned (.int .i64 7)) w3 from
        ⟨.inr ⟨rfl, rfl, L, by rw [show doesB stays keep = false from Hkd.out, if_neg (by decide)], hD3.mono (fun k hk => .inl hk)⟩, HKn.out.trans' hK3⟩)
      clear hD3 hK3
      go_wp2_with fail
      go_ret
      exact HR.out
  · have hxn : (left == 1) = false := beq_eq_false_iff_ne.2 (by omega)
    have hx1 : ¬ left - 1 ≤ 0 := by omega
    have hx2 : 0 ≤ left - 1 := by omega
    have HD1 := Lib.hid (show Dev S b ⟨room, acts + 1, false, left - 1, keep, torn⟩ L ((w.setCell ⟨b, 2, none⟩ (.int .i64 (acts + 1))).setCell ⟨b, 4, none⟩ (.int .i64 (left - 1))) from HD.out.setH (fun mb2 hb9 => block_set (i := 4) (u := .int .i64 (left - 1)) (block_set (i := 2) (u := .int .i64 (acts + 1)) hb9)) (fun k _ hk => by rw [set_other _ _ _ _ _ hk, set_other _ _ _ _ _ hk]))
    have HK1 := Lib.hid (((Kept.refl S w).setCell (.inl hSb) 2 (.int .i64 (acts + 1))).setCell (.inl hSb) 4 (.int .i64 (left - 1)))
    have HZ1 : Hid (((w.setCell ⟨b, 2, none⟩ (.int .i64 (acts + 1))).setCell ⟨b, 4, none⟩ (.int .i64 (left - 1))).heap.size = w.heap.size) := Lib.hid (by simp [World.setCell])
    have HC := Lib.hid (Hdo.out _ _ HD1.out HK1.out)
    clear hb hb2
    go_enter Try.func46, Try.ntmps46
    go_wp2_with fail
    refine HC.out.mono ?_
    rintro e1 w2 ⟨rfl, L2, hE2, hD2, hK2⟩
    have HR := Lib.hid (show ActR S b ⟨room, acts, false, left, keep, torn⟩ L stays E w (.returned (.int .i64 0)) w2 from
      ⟨.inl ⟨by show left ≠ 1; omega, rfl, L2, hE2, by
        have hm : max (left - 1) 0 = left - 1 := by omega
        show Dev (Gr S w w2) b ⟨room, acts + 1, false, max (left - 1) 0, keep, torn⟩ L2 w2
        rw [hm]
        exact hD2.mono (fun k hk => hk.imp id (fun hk => by rw [HZ1.out] at hk; exact hk))⟩, HK1.out.trans' hK2⟩)
    clear hE2 hD2 hK2
    go_wp2_with fail
    go_ret
    exact HR.out
end Go.Proofs.Ytfmcemedaehcoaa
