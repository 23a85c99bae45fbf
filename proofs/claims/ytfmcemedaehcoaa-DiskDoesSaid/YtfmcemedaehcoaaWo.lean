/- Walks: whether a device lives. -/
import Derived.Test.YtfmcemedaehcoaaWn
namespace Go.Proofs.Ytfmcemedaehcoaa
set_option linter.unusedVariables false
set_option linter.unusedSimpArgs false
open Go.ChangeShapes Go.WideShapes Go.ChangeAt Go.RowKit Go.ChangeMaps

theorem StepA.to {B n b : Nat} {w w' : World} {r : Int × Hd × List Ab} {e : Ending} {a : Int} {h' : Hd} {A' : List Ab} (h : StepA B n b w r e w') (hr : r = (a, h', A')) : e = .returned (.int .i64 a) ∧ DA B w'.heap.size b h' A' w' ∧ Kept (In B n) w w' := by
  subst hr
  exact ⟨h.e, h.d, h.k⟩
theorem new2 (w : World) (x y : UInt8) : (w.alloc (.cells #[.int .u8 x.toNat, .int .u8 y.toNat] 5)).heap[w.heap.size]? = some (.cells (LF bV [x, y]).toArray 5 (0, 0)) := heap_alloc_new _ _
theorem ReadA.ok {w w' : World} {h : Hd} {A : List Ab} {x : ByteArray} {e : Ending} {y : Ab} (r : ReadA w h A x e w') (hf : findA h A x = 0) (hl : lookA A x = some y) : ∃ v', e = .returned (.tuple #[v', .int .i64 0]) ∧ w'.ownsRow w.heap.size 5 1 v' y.2.1.length (LF bV y.2.1) ∧ Below w.heap.size w w' := by
  rcases r.r with ⟨h1, _⟩ | ⟨_, v', y', h2, h3, h4⟩
  · exact absurd hf h1
  · rw [hl] at h3; injection h3 with h3; subst h3
    exact ⟨v', h2, h4, r.b⟩
set_option maxRecDepth 100000 in
set_option maxHeartbeats 1000000 in
theorem alive_any (w : World) : Calls Try.prog 10 #[] w fun e w' => e = .returned (.bool true) ∧ Below w.heap.size w w' := by
  have E1 := Lib.hid (show stepA (newH 9) [] (apdA [] FF [1, 2]) (if readyE (newH 9) FF ≠ 0 then readyE (newH 9) FF else if ((newH 9) : Hd).room - (totA [] : Nat) < (([1, 2] : List UInt8).length : Nat) then 6 else 0) 0 = (0, ⟨9, 1, false, 0, 0, false⟩, [(FF, [1, 2], 0)]) by kernel_rfl)
  have E2 := Lib.hid (show stepA ⟨9, 1, false, 0, 0, false⟩ [(FF, [1, 2], 0)] (synA [(FF, [1, 2], 0)] FF) (findA ⟨9, 1, false, 0, 0, false⟩ [(FF, [1, 2], 0)] FF) 2 = (0, ⟨9, 2, false, 0, 0, false⟩, [(FF, [1, 2], 2)]) by kernel_rfl)
  have E3 := Lib.hid (show stepA ⟨9, 2, false, 0, 0, false⟩ [(FF, [1, 2], 2)] (apdA [(FF, [1, 2], 2)] FF [3, 4]) (if readyE ⟨9, 2, false, 0, 0, false⟩ FF ≠ 0 then readyE ⟨9, 2, false, 0, 0, false⟩ FF else if (⟨9, 2, false, 0, 0, false⟩ : Hd).room - (totA [(FF, [1, 2], 2)] : Nat) < (([3, 4] : List UInt8).length : Nat) then 6 else 0) 0 = (0, ⟨9, 3, false, 0, 0, false⟩, [(FF, [1, 2, 3, 4], 2)]) by kernel_rfl)
  have E4 : Hid ([(FF, [1, 2, 3, 4], 2)].map (loseA 1 true) = [(FF, [1, 2, 252], 3)]) := Lib.hid (by kernel_rfl)
  go_enter Try.func10, Try.ntmps10
  go_wp2_with fail
  refine (newA 9 _).mono ?_
  rintro e w1 ⟨rfl, d, hb⟩
  have D1 := Lib.hid d
  have B1 := Lib.hid hb
  have M1 := Lib.hid hb.size
  clear d hb
  go_wp2_with fail
  have hba : Below w1.heap.size w1 (w1.alloc (.cells #[.int .u8 1, .int .u8 2] 5)) := (Below.refl _ _).alloc (Nat.le_refl _) _
  have hna : (w1.alloc (.cells #[.int .u8 1, .int .u8 2] 5)).heap[w1.heap.size]? = some (.cells (LF bV [1, 2]).toArray 5 (0, 0)) := new2 w1 1 2
  have hda := D1.out.below hba
  generalize w1.alloc (.cells #[.int .u8 1, .int .u8 2] 5) = wa at *
  refine (appendA hda M1.out ⟨by decide, by decide, by decide⟩ (by decide) (by decide) FF _ [1, 2] (row_byt [1, 2] hna (by decide) (by decide) D1.out.n) (by decide)).mono ?_
  intro e w2 h9
  obtain ⟨rfl, d, hk⟩ := h9.to E1.out
  have D2 := Lib.hid d
  have B2 := Lib.hid ((B1.out.trans (hba.mono B1.out.size)).trans (hk.below (fun k hk => hk.1) ((Nat.le_trans B1.out.size hba.size))))
  have M2 := Lib.hid B2.out.size
  clear d hk hba hna hda
  go_wp2_with fail
  refine (syncA D2.out M2.out ⟨by decide, by decide, by decide⟩ (by decide) FF).mono ?_
  intro e w3 h9
  obtain ⟨rfl, d, hk⟩ := h9.to E2.out
  have D3 := Lib.hid d
  have B3 := Lib.hid (B2.out.trans (hk.below (fun k hk => hk.1) (B2.out.size)))
  have M3 := Lib.hid B3.out.size
  clear d hk
  go_wp2_with fail
  have hba : Below w3.heap.size w3 (w3.alloc (.cells #[.int .u8 3, .int .u8 4] 5)) := (Below.refl _ _).alloc (Nat.le_refl _) _
  have hna : (w3.alloc (.cells #[.int .u8 3, .int .u8 4] 5)).heap[w3.heap.size]? = some (.cells (LF bV [3, 4]).toArray 5 (0, 0)) := new2 w3 3 4
  have hda := D3.out.below hba
  generalize w3.alloc (.cells #[.int .u8 3, .int .u8 4] 5) = wa at *
  refine (appendA hda M3.out ⟨by decide, by decide, by decide⟩ (by decide) (by decide) FF _ [3, 4] (row_byt [3, 4] hna (by decide) (by decide) D3.out.n) (by decide)).mono ?_
  intro e w4 h9
  obtain ⟨rfl, d, hk⟩ := h9.to E3.out
  have D4 := Lib.hid d
  have B4 := Lib.hid ((B3.out.trans (hba.mono B3.out.size)).trans (hk.below (fun k hk => hk.1) ((Nat.le_trans B3.out.size hba.size))))
  have M4 := Lib.hid B4.out.size
  clear d hk hba hna hda
  go_wp2_with fail
  refine (offA D4.out (by decide) 1 true).mono ?_
  rintro e w5 ⟨rfl, d, hk⟩
  have D5 := Lib.hid d
  have B5 := Lib.hid (B4.out.trans (hk.below (fun k hk => hk.1) B4.out.size))
  have M5 := Lib.hid M4.out
  clear d hk
  go_wp2_with fail
  have D5b := Lib.hid (show DA _ _ _ ⟨9, 3, true, 0, 0, false⟩ [(FF, [1, 2, 252], 3)] w5 from by rw [← E4.out]; exact D5.out)
  clear D5
  have D5 := D5b
  refine (onA D5.out).mono ?_
  rintro e w6 ⟨rfl, d, hk⟩
  have D6 := Lib.hid d
  have B6 := Lib.hid (B5.out.trans (hk.below (fun k hk => hk.1) B5.out.size))
  have M6 := Lib.hid M5.out
  clear d hk
  go_wp2_with fail
  refine (readA D6.out (by decide) FF).mono ?_
  intro e w7 h9
  obtain ⟨v', rfl, ho, hb⟩ := h9.ok (y := (FF, [1, 2, 252], 3)) (by kernel_rfl) (by kernel_rfl)
  have hc := own_conv ho
  have hcl := B6.out.trans (hb.mono B6.out.size)
  obtain ⟨p7, n7, c7, rfl⟩ := own_slice (w := w7) ⟨ho.1, by rcases ho.2 with h | ⟨g, cap, cur, h1, h2, h3⟩; exact .inl h; exact .inr ⟨g, cap, cur, h1, Nat.zero_le _, h3⟩⟩
  have Hcl := Lib.hid hcl
  rw [show mkB [1, 2, 252] = ⟨#[1, 2, 252]⟩ from rfl] at hc
  clear ho hb hcl
  go_wp2_with fail
  go_ret
  exact ⟨rfl, Hcl.out⟩
end Go.Proofs.Ytfmcemedaehcoaa
