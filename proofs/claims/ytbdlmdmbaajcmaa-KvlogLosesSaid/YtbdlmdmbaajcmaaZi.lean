/- A file is cut behind its last whole record. -/
import Derived.Test.YtbdlmdmbaajcmaaZh
import Derived.Test.YtbdlmdmbaajcmaaTb
namespace Go.Proofs.Ytbdlmdmbaajcmaa
set_option linter.unusedVariables false
set_option linter.unusedSimpArgs false
open Go.ChangeShapes Go.WideShapes Go.ChangeAt Go.RowKit

theorem step_ok {h : Hd} {A A1 : List Ab} {pre stays : Int} (hp : pre = 0) (hl : h.left ≠ 1) : stepA h A A1 pre stays = (0, ⟨h.room, h.acts + 1, false, max (h.left - 1) 0, h.keep, h.torn⟩, A1) := by
  unfold stepA
  rw [if_neg (by simp [hp]), if_pos hl]
theorem step_off {h : Hd} {A A1 : List Ab} {pre stays : Int} (hp : pre = 0) (hl : h.left = 1) : stepA h A A1 pre stays = (7, ⟨h.room, h.acts + 1, true, 0, 0, false⟩, (if doesB stays h.keep = true then A1 else A).map (loseA h.keep h.torn)) := by
  unfold stepA
  rw [if_neg (by simp [hp]), if_neg (by simp [hl])]
theorem step_pre {h : Hd} {A A1 : List Ab} {pre stays : Int} (hp : pre ≠ 0) : stepA h A A1 pre stays = (pre, h, A) := by
  unfold stepA
  rw [if_pos hp]
theorem drpA_len (P : List Ab) (x : ByteArray) : (drpA P x).length ≤ P.length := List.length_filter_le _ _
theorem findA_look {h : Hd} {A : List Ab} {x : ByteArray} (hf : findA h A x = 0) : h.down = false ∧ goodN x = true ∧ ∃ y, lookA A x = some y := by
  unfold findA at hf
  split at hf
  · rename_i h1; exact absurd hf h1
  · rename_i h1
    have hr : readyE h x = 0 := by simpa using h1
    split at hf
    · rename_i h2
      obtain ⟨h3, h4⟩ := readyE_ok hr
      exact ⟨h3, h4, Option.isSome_iff_exists.1 h2⟩
    · cases hf
/-- Bounds of a device. -/
structure DvOk (n : Nat) (h : Hd) (A : List Ab) : Prop where
  room : 0 ≤ h.room ∧ h.room ≤ 1048576
  left : 0 ≤ h.left ∧ h.left ≤ 9223372036854775807
  acts : 0 ≤ h.acts ∧ h.acts ≤ (n : Int)
  t : totA A ≤ 1048576
  l : A.length ≤ n
theorem DvOk.hd {n : Nat} {h : Hd} {A : List Ab} (k : DvOk n h A) (hn : n ≤ 1000000) : HdOk h := ⟨k.room, k.left, by have := k.acts; omega⟩
theorem DvOk.more {n n' : Nat} {h : Hd} {A : List Ab} (k : DvOk n h A) (hn : n ≤ n') : DvOk n' h A := ⟨k.room, k.left, by have := k.acts; omega, k.t, by have := k.l; omega⟩
theorem DvOk.step {n : Nat} {h : Hd} {A A1 : List Ab} {pre stays : Int} (k : DvOk n h A) (h1 : totA A1 ≤ 1048576) (h2 : A1.length ≤ n + 1) : DvOk (n + 1) (stepA h A A1 pre stays).2.1 (stepA h A A1 pre stays).2.2 := by
  by_cases hp : pre = 0
  · by_cases hl : h.left = 1
    · rw [step_off hp hl]
      refine ⟨k.room, by show (0 : Int) ≤ 0 ∧ (0 : Int) ≤ _; omega, by show (0 : Int) ≤ h.acts + 1 ∧ h.acts + 1 ≤ ((n + 1 : Nat) : Int); have := k.acts; omega, ?_, ?_⟩
      · refine Nat.le_trans tot_lose ?_
        by_cases hb : doesB stays h.keep = true
        · rw [if_pos hb]; exact h1
        · rw [if_neg hb]; exact k.t
      · show (List.map _ _).length ≤ _
        rw [List.length_map]
        by_cases hb : doesB stays h.keep = true
        · rw [if_pos hb]; exact h2
        · rw [if_neg hb]; have := k.l; omega
    · rw [step_ok hp hl]
      exact ⟨k.room, by show (0 : Int) ≤ max (h.left - 1) 0 ∧ max (h.left - 1) 0 ≤ _; have := k.left; omega, by show (0 : Int) ≤ h.acts + 1 ∧ h.acts + 1 ≤ ((n + 1 : Nat) : Int); have := k.acts; omega, h1, h2⟩
  · rw [step_pre hp]
    exact k.more (by omega)
theorem own_slice5 {w : World} {base : Nat} {v : Value} {n : Nat} {xs : List Value} (h : w.ownsRow base 5 1 v n xs) : ∃ p c, v = .slice p n c := by
  rcases h.2 with ⟨h1, h2⟩ | ⟨g, cap, cur, hv, _⟩
  · subst h1; exact ⟨none, 0, by rw [h2]⟩
  · exact ⟨_, cap, hv⟩
/-- What mend comes to. -/
def mendOut (h : Hd) (A : List Ab) (nm : ByteArray) : Int × Hd × List Ab × List ByteArray :=
  if findA h A nm = 0 then
    (match lookA A nm with
    | some y => if (G.splitL y.2.1).2 < y.2.1.length then
        (match stepA h A (cutA A nm (G.splitL y.2.1).2) 0 1 with
        | (e, h2, A2) => (e, h2, A2, if e = 0 then (G.splitL y.2.1).1 else []))
        else (0, h, A, (G.splitL y.2.1).1)
    | none => (0, h, A, []))
  else (if findA h A nm = 5 then 0 else findA h A nm, h, A, [])
def MendEnd (TD : Nat → Prop) (d : Nat) (r : Int × Hd × List Ab × List ByteArray) (w : World) (e : Ending) (w' : World) : Prop :=
  ∃ v, e = .returned (.tuple #[v, .int .i64 r.1]) ∧ w'.ownsRow w.heap.size 9 1 v r.2.2.2.length (r.2.2.2.map Value.string) ∧ DV (Gr TD w w') d r.2.1 r.2.2.1 w' ∧ Kept TD w w'
theorem row_nil (w : World) (B : Nat) : w.ownsRow B 9 1 (.slice none 0 0) ([] : List ByteArray).length (([] : List ByteArray).map Value.string) := ⟨rfl, .inl ⟨rfl, rfl⟩⟩
set_option maxRecDepth 100000 in
set_option maxHeartbeats 4000000 in
/-- A file is cut behind its last whole record. -/
theorem mend_any {TD : Nat → Prop} {d : Nat} {h : Hd} {A : List Ab} {w : World} {n : Nat} (dv : DV TD d h A w) (ld : ∀ k, TD k → k < w.heap.size) (ok : DvOk n h A) (hn : n ≤ 1000000) (nm : ByteArray) :
    Calls Try.prog 32 #[.pointer (some ⟨d, 0, none⟩), .string nm] w (MendEnd TD d (mendOut h A nm) w) := by
  have HRd := Lib.hid (cRead dv ok.t nm)
  have HDv := Lib.hid dv
  have HLd := Lib.hid ld
  have HOk := Lib.hid ok
  by_cases h0 : findA h A nm = 0
  case neg =>
    have ho : mendOut h A nm = (if findA h A nm = 5 then 0 else findA h A nm, h, A, []) := by unfold mendOut; rw [if_neg h0]
    rw [ho]
    have HM := Lib.hid (fun (w1 : World) (hB : Below w.heap.size w w1) (z : Int) => show MendEnd TD d (z, h, A, []) w (.returned (.tuple #[.slice none 0 0, .int .i64 z])) w1 from ⟨_, rfl, row_nil _ _, (dv.below hB).mono (fun k hk => .inl hk), Kept.of_below hB⟩)
    have HRe := Lib.hid (show Calls Try.prog 15 #[.pointer (some ⟨d, 0, none⟩), .string nm] w (fun e w' => e = .returned (.tuple #[.slice none 0 0, .int .i64 (findA h A nm)]) ∧ Below w.heap.size w w') from HRd.out.mono fun e w' ⟨hr, hB⟩ => by
      rcases hr with ⟨_, he⟩ | ⟨he, _⟩
      · exact ⟨he, hB⟩
      · exact absurd he h0)
    generalize findA h A nm = z at *
    clear ho dv ld ok HRd
    by_cases h5 : z = 5
    · rw [if_pos h5]
      have k5 : (z == 5) = true := beq_iff_eq.2 h5
      clear h0
      subst h5
      clear k5
      go_enter Try.func32, Try.ntmps32
      go_wp2_with fail
      refine HRe.out.mono ?_
      rintro e w1 ⟨rfl, hB⟩
      have HE := Lib.hid (HM.out w1 hB 0)
      clear hB
      go_wp2_with fail
      go_ret2
      exact HE.out
    · rw [if_neg h5]
      have k5 : (z == 5) = false := beq_eq_false_iff_ne.2 h5
      have k0 : (z == 0) = false := beq_eq_false_iff_ne.2 h0
      have k0n := ne_of_eqb k0
      clear h0 h5
      go_enter Try.func32, Try.ntmps32
      go_wp2_with fail
      refine HRe.out.mono ?_
      rintro e w1 ⟨rfl, hB⟩
      have HE := Lib.hid (HM.out w1 hB z)
      clear hB
      go_wp2_with fail
      go_ret2
      exact HE.out
  obtain ⟨hdn, hgd, y, hy⟩ := findA_look h0
  have hyl : y.2.1.length ≤ 1048576 := Nat.le_trans (tot_le (lookA_some hy).1) ok.t
  have HRe := Lib.hid (show Calls Try.prog 15 #[.pointer (some ⟨d, 0, none⟩), .string nm] w (fun e w' => (∃ v', e = .returned (.tuple #[v', .int .i64 0]) ∧ w'.ownsRow w.heap.size 5 1 v' y.2.1.length (G.cellsL y.2.1)) ∧ Below w.heap.size w w') from HRd.out.mono fun e w' ⟨hr, hB⟩ => by
    rcases hr with ⟨he, _⟩ | ⟨_, v', y', he, hl, hown⟩
    · exact absurd h0 he
    · rw [hy] at hl
      injection hl with hl
      subst hl
      exact ⟨⟨v', he, by rw [← LF_cells]; exact hown⟩, hB⟩)
  obtain ⟨S, q, hS⟩ : ∃ S q, G.splitL y.2.1 = (S, q) := ⟨_, _, rfl⟩
  have HSp := Lib.hid (show ∀ (w1 : World) v', w1.ownsRow w.heap.size 5 1 v' y.2.1.length (G.cellsL y.2.1) → Calls Try.prog 57 #[v'] w1 (fun e w2 => Below w1.heap.size w1 w2 ∧ ∃ v, e = .returned (.tuple #[v, .int .i64 (q : Nat)]) ∧ w2.ownsRow w1.heap.size 9 1 v S.length (S.map Value.string)) from fun w1 v' hv => by
    have := G.split_any v' y.2.1 w1 (G.BytsA.ofRow hv).byts hyl
    rw [hS] at this
    exact this)
  have hmo : mendOut h A nm = if q < y.2.1.length then (match stepA h A (cutA A nm q) 0 1 with | (e, h2, A2) => (e, h2, A2, if e = 0 then S else [])) else (0, h, A, S) := by
    unfold mendOut
    rw [if_pos h0, hy]
    dsimp only
    rw [hS]
  rw [hmo]
  by_cases hq : q < y.2.1.length
  · rw [if_pos hq]
    have hqI : (q : Int) < (y.2.1.length : Int) := by omega
    have HCut := Lib.hid (show ∀ w1, Below w.heap.size w w1 → Calls Try.prog 58 #[.pointer (some ⟨d, 0, none⟩), .string nm, .int .i64 (q : Nat)] w1 (CR TD d w1 (stepA h A (cutA A nm q) 0 1)) from fun w1 hB => by
      have := cCut (dv.below hB) (fun k hk => Nat.lt_of_lt_of_le (ld k hk) hB.size) (ok.hd hn) ok.t nm (q : Nat) (by omega)
      rw [if_neg (by simp [h0]), if_neg (by omega), Int.toNat_natCast] at this
      exact this)
    obtain ⟨e9, h9, A9, hst⟩ : ∃ e9 h9 A9, stepA h A (cutA A nm q) 0 1 = (e9, h9, A9) := ⟨_, _, _, rfl⟩
    rw [hst] at HCut ⊢
    dsimp only
    generalize y.2.1.length = ly at *
    generalize G.cellsL y.2.1 = cy at *
    clear hmo hst hS dv ld ok HRd h0 hy hdn hgd hq
    by_cases he : e9 = 0
    · subst he
      rw [if_pos rfl]
      go_enter Try.func32, Try.ntmps32
      go_wp2_with fail
      refine HRe.out.mono ?_
      rintro e w1 ⟨⟨v', rfl, hown⟩, hB⟩
      have HB := Lib.hid hB
      have HS1 := Lib.hid (HSp.out w1 v' hown)
      obtain ⟨pv, cv, rfl⟩ := own_slice5 hown
      clear hB hown HSp
      go_wp2_with fail
      refine HS1.out.mono ?_
      rintro e w2 ⟨hB, v, rfl, hown⟩
      have HB2 := Lib.hid (HB.out.trans (hB.mono HB.out.size))
      have Hown := Lib.hid (own_base hown HB.out.size)
      have HC := Lib.hid (HCut.out w2 HB2.out)
      clear hB hown HS1
      go_wp2_with fail
      refine HC.out.mono ?_
      rintro e w3 ⟨rfl, hd, hk⟩
      have HE := Lib.hid (show MendEnd TD d (0, h9, A9, S) w (.returned (.tuple #[v, .int .i64 0])) w3 from ⟨v, rfl, own_blockG Hown.out (fun g hg hlt => hk.block g hlt (fun hT => by have := HLd.out g hT; omega)), hd.mono (fun k hk => hk.imp id (fun x => ⟨Nat.le_trans HB2.out.size x.1, x.2⟩)), (Kept.of_below HB2.out).trans' hk⟩)
      clear hd hk
      go_wp2_with fail
      go_ret2
      exact HE.out
    · rw [if_neg he]
      have k0 : (e9 == 0) = false := beq_eq_false_iff_ne.2 he
      have k0n := ne_of_eqb k0
      clear he
      go_enter Try.func32, Try.ntmps32
      go_wp2_with fail
      refine HRe.out.mono ?_
      rintro e w1 ⟨⟨v', rfl, hown⟩, hB⟩
      have HB := Lib.hid hB
      have HS1 := Lib.hid (HSp.out w1 v' hown)
      obtain ⟨pv, cv, rfl⟩ := own_slice5 hown
      clear hB hown HSp
      go_wp2_with fail
      refine HS1.out.mono ?_
      rintro e w2 ⟨hB, v, rfl, hown⟩
      have HB2 := Lib.hid (HB.out.trans (hB.mono HB.out.size))
      have HC := Lib.hid (HCut.out w2 HB2.out)
      clear hB hown HS1
      go_wp2_with fail
      refine HC.out.mono ?_
      rintro e w3 ⟨rfl, hd, hk⟩
      have HE := Lib.hid (show MendEnd TD d (e9, h9, A9, []) w (.returned (.tuple #[.slice none 0 0, .int .i64 e9])) w3 from ⟨_, rfl, row_nil _ _, hd.mono (fun k hk => hk.imp id (fun x => ⟨Nat.le_trans HB2.out.size x.1, x.2⟩)), (Kept.of_below HB2.out).trans' hk⟩)
      clear hd hk
      go_wp2_with fail
      go_ret2
      exact HE.out
  · rw [if_neg hq]
    have hqI : ¬ (q : Int) < (y.2.1.length : Int) := by omega
    generalize y.2.1.length = ly at *
    generalize G.cellsL y.2.1 = cy at *
    clear hmo hS dv ld ok HRd h0 hy hdn hgd hq
    go_enter Try.func32, Try.ntmps32
    go_wp2_with fail
    refine HRe.out.mono ?_
    rintro e w1 ⟨⟨v', rfl, hown⟩, hB⟩
    have HB := Lib.hid hB
    have HS1 := Lib.hid (HSp.out w1 v' hown)
    obtain ⟨pv, cv, rfl⟩ := own_slice5 hown
    clear hB hown HSp
    go_wp2_with fail
    refine HS1.out.mono ?_
    rintro e w2 ⟨hB, v, rfl, hown⟩
    have HB2 := Lib.hid (HB.out.trans (hB.mono HB.out.size))
    have HE := Lib.hid (show MendEnd TD d (0, h, A, S) w (.returned (.tuple #[v, .int .i64 0])) w2 from ⟨v, rfl, own_base hown HB.out.size, (HDv.out.below HB2.out).mono (fun k hk => .inl hk), Kept.of_below HB2.out⟩)
    clear hB hown HS1
    go_wp2_with fail
    go_ret2
    exact HE.out
end Go.Proofs.Ytbdlmdmbaajcmaa
