/- Walks: the statement DiskKeeps. -/
import Derived.Test.YtfmcemedaehcoaaWq
namespace Go.Proofs.Ytfmcemedaehcoaa
set_option linter.unusedVariables false
set_option linter.unusedSimpArgs false
open Go.ChangeShapes Go.WideShapes Go.ChangeAt Go.RowKit Go.ChangeMaps

theorem add_byte (x : UInt8) : IntKind.u8.wrap ((x.toNat : Int) + 1) = ((x + 1).toNat : Int) := by
  have h : (x + 1).toNat = (x.toNat + 1) % 256 := by rw [UInt8.toNat_add]; rfl
  rw [h]
  simp [IntKind.wrap, IntKind.bits, IntKind.signed]
theorem DA.set {B n b : Nat} {h : Hd} {A : List Ab} {w : World} (d : DA B n b h A w) {g : Nat} (hg : g < B ∨ n ≤ g) (i : Nat) (v : Value) : DA B n b h A (w.setCell ⟨g, i, none⟩ v) := by
  obtain ⟨S, L, h1, h2, h3⟩ := d.e
  exact ⟨⟨S, L, h1, h2.of_blocks (fun k _ hk => set_other _ _ _ _ _ (fun e => by have h4 := h3 k hk; have h5 := h4.1; have h6 := h4.2; omega)), h3⟩, by simpa [World.setCell] using d.n⟩
set_option maxRecDepth 100000 in
set_option maxHeartbeats 2000000 in
theorem keeps_walk (u0 : Value) (p : List UInt8) (w : World) (h0 : BytsA w u0 p) : Calls Try.prog 7 #[u0] w (LawEnd w) := by
  have hl0 := h0.lat
  clear h0
  obtain ⟨pu, cu, rfl⟩ := lat_slice hl0
  have L0 := Lib.hid hl0
  clear hl0
  have HA := Lib.hid (alive_any w)
  by_cases hp : 4096 < p.length
  · have g1 : decide ((4096 : Int) < (p.length : Nat)) = true := decide_eq_true (by omega)
    go_enter Try.func7, Try.ntmps7
    go_wp2_with fail
    refine HA.out.mono ?_
    rintro e w0 ⟨rfl, hb⟩
    have B0 := Lib.hid hb
    clear hb
    go_wp2_with fail
    go_ret
    exact ⟨rfl, B0.out⟩
  · have g1 : decide ((4096 : Int) < (p.length : Nat)) = false := decide_eq_false (by omega)
    have E1 := Lib.hid (show stepA (newH 1048576) [] (apdA [] FF p) (if readyE (newH 1048576) FF ≠ 0 then readyE (newH 1048576) FF else if ((newH 1048576) : Hd).room - (totA [] : Nat) < ((p : List UInt8).length : Nat) then 6 else 0) 0 = (0, ⟨1048576, 1, false, 0, 0, false⟩, [(FF, p, 0)]) from (step_ok (pre_ok (by kernel_rfl) (by show (p.length : Int) ≤ 1048576 - ((0 : Nat) : Int); omega)) (by decide)).trans (by kernel_rfl))
    go_enter Try.func7, Try.ntmps7
    go_wp2_with fail
    refine HA.out.mono ?_
    rintro e w0 ⟨rfl, hb⟩
    have B0 := Lib.hid hb
    have hal : Below w0.heap.size w0 (w0.alloc (.cells #[] 5)) := (Below.refl _ _).alloc (Nat.le_refl _) _
    have Hown := Lib.hid (show (w0.alloc (.cells #[] 5)).ownsRow w0.heap.size 5 1 (.slice (some ⟨w0.heap.size, 0, none⟩) 0 0) ([] : List UInt8).length (LF bV ([] : List UInt8)) from ⟨by simp [LF], .inr ⟨w0.heap.size, 0, #[], rfl, Nat.le_refl _, heap_alloc_new _ _, Nat.le_refl _, by decide, by simp, by simp [LF]⟩⟩)
    have Hul := Lib.hid ((L0.out.below B0.out).below hal)
    have Hal := Lib.hid hal
    clear hal hb
    go_wp2_with (first | (at_builtin; go_must (refine wpList_append_gen eltB rfl (.tmp 16) (.tmp 17) rfl rfl w0.heap.size _ [] rfl Hown.out _ p Hul.out rfl (by simp; omega) (by unfold maxLen; simp; omega) Hal.out.size ?_); intro vb w1 ho hg))
    have B1 := Lib.hid (Hal.out.grown hg Hal.out.size (fun k hk => by injection hk with hk; rw [← hk]; exact Nat.le_refl _))
    rw [List.nil_append] at ho
    obtain ⟨pb, cb, rfl⟩ := own_sliceN (own_zero ho)
    have R1 := Lib.hid ho
    have HG : Hid (∀ g, (Value.slice pb p.length cb).ownBlock = some g → w0.heap.size ≤ g ∧ g < w1.heap.size) := Lib.hid (fun g hg => ho.lt g hg)
    have BW1 := Lib.hid (B0.out.trans (B1.out.mono B0.out.size))
    clear ho hg Hown Hul
    go_wp2_with fail
    refine (newA 1048576 _).mono ?_
    rintro e w2 ⟨rfl, d, hb⟩
    have D2 := Lib.hid d
    have B2 := Lib.hid hb
    have M2 := Lib.hid hb.size
    clear d hb
    go_wp2_with fail
    refine (appendA D2.out M2.out ⟨by decide, by decide, by decide⟩ (by simp [totA] <;> omega) (by simp) FF _ p (LAt.byt (LAt.own (fun x _ => bV_len x) (gen_own_below R1.out B2.out)) (fun g hg hin => by have := (HG.out g hg).2; have := hin.1; omega)) (by omega)).mono ?_
    intro e w3 h9
    obtain ⟨rfl, d, hk⟩ := h9.to E1.out
    have D3 := Lib.hid d
    have B3 := Lib.hid (B2.out.trans (hk.below (fun k hk => hk.1) (B2.out.size)))
    have M3 := Lib.hid B3.out.size
    clear d hk
    have BW3 := Lib.hid (BW1.out.trans (B3.out.mono BW1.out.size))
    have R3 := Lib.hid (own_zero (gen_own_below R1.out B3.out))
    have c1 := own_conv R3.out
    have c2 := lat_conv (L0.out.below BW3.out)
    have hsz0 := B0.out.size
    go_wp2_with fail
    clear c1 c2
    go_loopg [5, 30] p.length (fun gg _ iv wr => ∃ i : Nat, i + gg = p.length ∧ iv = .int .i64 i ∧ ∃ l, l.length = p.length ∧ wr.ownsRow 0 5 1 (.slice pb p.length cb) p.length (LF bV l) ∧ DA w1.heap.size w3.heap.size (w1.heap.size + 1) ⟨1048576, 1, false, 0, 0, false⟩ [(FF, p, 0)] wr ∧ Below w.heap.size w wr)
    case atStart => exact ⟨0, by omega, rfl, p, rfl, R3.out, D3.out, BW3.out⟩
    case round =>
      obtain ⟨i, hig, rfl, l, hl, hrow, hd, hB⟩ := hrel
      by_cases hlt : i < p.length
      · have hltI : (i : Int) < (p.length : Int) := by omega
        obtain ⟨g, hg⟩ : ∃ g, pb = some ⟨g, 0, none⟩ := by
          rcases hrow.2 with ⟨_, h0⟩ | ⟨g, cap, cur, e, _⟩
          · omega
          · injection e with e1 _ _; exact ⟨g, e1⟩
        subst hg
        have hrow2 : wr.ownsRow 0 5 1 (.slice (some ⟨g, 0, none⟩) p.length cb) l.length (LF bV l) := by rw [hl]; exact hrow
        obtain ⟨hcell, hfz⟩ := own_cell hrow2 hl.symm (j := i) (by omega)
        have Hn := Lib.hid (own_set hrow2 i (l.getD i 0 + 1))
        have hgb := HG.out g rfl
        have hadd := add_byte (l.getD i 0)
        generalize l.getD i 0 = x at *
        have Hd := Lib.hid hd
        have HB := Lib.hid hB
        clear hrow hrow2 hd hB
        go_wp2_with fail
        go_roundg (gk - 1)
        case measure => omega
        case rel => exact ⟨i + 1, by omega, by go_num, l.set i (x + 1), by rw [List.length_set]; exact hl, by have h := Hn.out; rw [List.length_set, hl] at h; exact h, Hd.out.set (g := g) (by omega) _ _, HB.out.setCell (by show w.heap.size ≤ g; omega) _⟩
      · obtain rfl : i = p.length := by omega
        have hnl : ¬ (p.length : Int) < (p.length : Int) := by omega
        have Hd := Lib.hid hd
        have HB := Lib.hid hB
        clear hrow hd hB hl hig
        go_wp2_with fail
        refine (readA Hd.out (by simp [totA] <;> omega) FF).mono ?_
        intro e w5 h9
        obtain ⟨v1, rfl, ho1, hb⟩ := h9.ok (y := (FF, p, 0)) (by kernel_rfl) (by kernel_rfl)
        obtain ⟨p7, c7, rfl⟩ := own_sliceN (own_zero ho1)
        replace ho1 : w5.ownsRow wr.heap.size 5 1 (.slice p7 p.length c7) p.length (LF bV p) := ho1
        have BW5 := Lib.hid (HB.out.trans (hb.mono HB.out.size))
        have D5 := Lib.hid (Hd.out.below hb)
        have HG2 : Hid (∀ g, (Value.slice p7 p.length c7).ownBlock = some g → w.heap.size ≤ g ∧ w3.heap.size ≤ g) := Lib.hid (fun g hg => by have h := (ho1.lt g hg).1; have := Hd.out.n; have := HB.out.size; omega)
        have R5 := Lib.hid (own_zero ho1)
        clear ho1 hb Hd HB
        go_wp2_with fail
        go_loopg [8, 47] p.length (fun gg _ iv wr => ∃ i : Nat, i + gg = p.length ∧ iv = .int .i64 i ∧ ∃ l, l.length = p.length ∧ wr.ownsRow 0 5 1 (.slice p7 p.length c7) p.length (LF bV l) ∧ DA w1.heap.size w3.heap.size (w1.heap.size + 1) ⟨1048576, 1, false, 0, 0, false⟩ [(FF, p, 0)] wr ∧ Below w.heap.size w wr)
        case atStart => exact ⟨0, by omega, rfl, p, rfl, R5.out, D5.out, BW5.out⟩
        case round =>
          obtain ⟨i, hig, rfl, l, hl, hrow, hd, hB⟩ := hrel
          by_cases hlt : i < p.length
          · have hltI : (i : Int) < (p.length : Int) := by omega
            obtain ⟨g, hg⟩ : ∃ g, p7 = some ⟨g, 0, none⟩ := by
              rcases hrow.2 with ⟨_, h0⟩ | ⟨g, cap, cur, e, _⟩
              · omega
              · injection e with e1 _ _; exact ⟨g, e1⟩
            subst hg
            have hrow2 : wr.ownsRow 0 5 1 (.slice (some ⟨g, 0, none⟩) p.length c7) l.length (LF bV l) := by rw [hl]; exact hrow
            obtain ⟨hcell, hfz⟩ := own_cell hrow2 hl.symm (j := i) (by omega)
            have Hn := Lib.hid (own_set hrow2 i (l.getD i 0 + 1))
            have hgb := HG2.out g rfl
            have hadd := add_byte (l.getD i 0)
            generalize l.getD i 0 = x at *
            have Hd := Lib.hid hd
            have HB := Lib.hid hB
            clear hrow hrow2 hd hB
            go_wp2_with fail
            go_roundg (gk - 1)
            case measure => omega
            case rel => exact ⟨i + 1, by omega, by go_num, l.set i (x + 1), by rw [List.length_set]; exact hl, by have h := Hn.out; rw [List.length_set, hl] at h; exact h, Hd.out.set (g := g) (by omega) _ _, HB.out.setCell (by show w.heap.size ≤ g; omega) _⟩
          · obtain rfl : i = p.length := by omega
            have hnl : ¬ (p.length : Int) < (p.length : Int) := by omega
            have Hd := Lib.hid hd
            have HB := Lib.hid hB
            clear hrow hd hB hl hig
            go_wp2_with fail
            refine (readA Hd.out (by simp [totA] <;> omega) FF).mono ?_
            intro e w7 h9
            obtain ⟨v2, rfl, ho2, hb⟩ := h9.ok (y := (FF, p, 0)) (by kernel_rfl) (by kernel_rfl)
            obtain ⟨p8, c8, rfl⟩ := own_sliceN (own_zero ho2)
            have BW := Lib.hid (HB.out.trans (hb.mono HB.out.size))
            have c1 := own_conv ho2
            have c2 := lat_conv (L0.out.below BW.out)
            simp only at c1 c2
            clear hb ho2
            go_wp2_with fail
            go_ret
            exact ⟨rfl, BW.out⟩
end Go.Proofs.Ytfmcemedaehcoaa
