/- The document's device: the power goes. -/
import Derived.Test.YtfmcemedaehcoaaXe
namespace Go.Proofs.Ytfmcemedaehcoaa
set_option linter.unusedVariables false
set_option linter.unusedSimpArgs false
open Go.ChangeShapes Go.WideShapes Go.ChangeAt Go.RowKit Go.ChangeMaps

theorem set_last {d : List UInt8} {n : Nat} (x : UInt8) (h0 : 0 < n) (hn : n ≤ d.length) : (d.take n).set (n - 1) x = (d.take n).take (n - 1) ++ [x] := by
  obtain ⟨m, rfl⟩ : ∃ m, n = m + 1 := ⟨n - 1, by omega⟩
  rw [Nat.add_sub_cancel, List.take_succ_eq_append_getElem (by omega), List.set_append_right _ _ (by rw [List.length_take]; omega), List.length_take, Nat.min_eq_left (by omega), Nat.sub_self, List.take_append_of_le_length (by rw [List.length_take]; omega), List.take_take, Nat.min_self]
  rfl
def offR (h : Hd) : Hd := ⟨h.room, h.acts, true, 0, h.keep, h.torn⟩
/-- A loss of one file: no byte is turned. -/
theorem lose_no {k : Int} {t : Bool} {y : Ab} {n : Nat} (hn : n = keptN k y.2.1 y.2.2) (hc : ¬ (0 < n ∧ t = true)) : loseA k t y = (y.1, y.2.1.take (y.2.2 + n), (y.2.1.take (y.2.2 + n)).length) := by
  unfold loseA loseD
  rw [← hn, if_neg hc]
theorem lose_yes {k : Int} {t : Bool} {y : Ab} {n : Nat} (hs : y.2.2 ≤ y.2.1.length) (hn : n = keptN k y.2.1 y.2.2) (hc : 0 < n ∧ t = true) :
    loseA k t y = (y.1, (y.2.1.take (y.2.2 + n)).take (y.2.2 + n - 1) ++ [y.2.1.getD (y.2.2 + n - 1) 0 ^^^ 255], y.2.2 + n) := by
  have h1 := keptN_le k y.2.1 y.2.2
  unfold loseA loseD
  rw [← hn, if_pos hc, set_last _ (by omega) (by omega)]
  simp only [List.length_append, List.length_take, List.length_cons, List.length_nil]
  congr 2
  omega
theorem wrap_small (n : Nat) (h : n < 9223372036854775808) : IntKind.i64.wrap (n : Int) = (n : Int) := by
  have e : (n : Int) % 2 ^ 64 = n := Int.emod_eq_of_lt (by omega) (by omega)
  simp only [IntKind.wrap, IntKind.bits, IntKind.signed, e]
  rw [if_neg]
  simp
  omega
theorem xor_fin2 : ∀ n : Fin 256, IntKind.u8.wrap ((BitVec.ofInt 8 255 ^^^ BitVec.ofInt 8 ((n.val : Nat) : Int)).toNat : Int) = (((UInt8.ofNat n.val) ^^^ 255).toNat : Int) := by decide +kernel
theorem xo_run (x : UInt8) (w : World) : (Op.unary .xor (.int .u8 (x.toNat : Nat))).run Try.prog w = .ok (.int .u8 ((x ^^^ 255).toNat : Nat)) w := by
  have h := xor_fin2 ⟨x.toNat, x.toNat_lt⟩
  simp only [UInt8.ofNat_toNat] at h
  exact congrArg (fun v => Result.ok (Value.int .u8 v) w) h
theorem ix_run (E : List UInt8) (m : Nat) (h : m < E.length) (w : World) : (Instr.index 9 (.string (mkB E)) (.int .i64 (m : Nat))).run Try.prog w = .ok (.int .u8 ((E.getD m 0).toNat : Nat)) w := by
  have hs : m < (mkB E).size := by rw [mkB_size]; exact h
  rw [run_index_string (P := Try.prog) (w := w) (t := 9) (s := mkB E) (k := .i64) (i := (m : Nat)) Try.underlying9, dif_pos ⟨by omega, by omega⟩]
  have e : (mkB E)[m] = E.getD m 0 := by
    rw [List.getD_eq_getElem?_getD, List.getElem?_eq_getElem h]
    rfl
  simp only [Int.toNat_natCast, e]
theorem sl_run (E : List UInt8) (m : Nat) (h : m ≤ E.length) (w : World) : (Instr.sliceAt 9 (.string (mkB E)) none (some (.int .i64 (m : Nat))) none).run Try.prog w = .ok (.string (mkB (E.take m))) w := by
  rw [str_upto (mkB E) m (by rw [mkB_size]; exact h) w, mkB_take]
theorem add_run (a b : List UInt8) (h : a.length + b.length ≤ 9223372036854775807) (w : World) : (binOp .add 9 (.string (mkB a)) (.string (mkB b))).run Try.prog w = .ok (.string (mkB (a ++ b))) w := by
  rw [← mkB_app]
  rw [binOp_string_add]
  exact run_string_add_sum w _ _ (by rw [mkB_size, mkB_size]; omega)
theorem conv_one {w : World} {B : Nat} {z : UInt8} (h : w.heap[B]? = some (.cells #[.int .u8 (z.toNat : Nat)] 5 (0, 0))) : (convert 29 9 (.slice (some ⟨B, 0, none⟩) 1 1)).run Try.prog w = .ok (.string (mkB [z])) w :=
  lat_conv (LAt.block (n := 1) (fl := bV) (e := 5) rfl rfl h)
set_option maxRecDepth 100000 in
set_option maxHeartbeats 4000000 in
theorem loseR_any {S : Nat → Prop} {w0 : World} {b : Nat} {h : Hd} {A : List Ab} {w : World} (d : Rd S w0 b h A w) (hdn : h.down = false) (hn : A.length ≤ 1048576) (ht : totA A ≤ 1048576) (hsf : ∀ y ∈ A, y.2.2 ≤ y.2.1.length) (k : Int) (t : Bool) (hk : -9223372036854775808 ≤ k ∧ k ≤ 9223372036854775807) :
    Calls Try.prog 37 #[.pointer (some ⟨b, 0, none⟩), .int .i64 k, .bool t] w fun e w' => e = .returned (.tuple #[]) ∧ Rd S w0 b (offR h) (A.map (loseA k t)) w' := by
  have D := Lib.hid d
  obtain ⟨v, hb, hl, _⟩ := d.r
  obtain ⟨p, c, rfl⟩ := hl.shape
  have c0 : w.cell? ⟨b, 0, none⟩ = some (.slice p A.length c) := block_cell hb 0
  have c2 : w.cell? ⟨b, 2, none⟩ = some (.bool h.down) := block_cell hb 2
  rw [hdn] at c2
  have HL := Lib.hid hl
  have Hb := Lib.hid hb
  have hbl := d.blk
  have HT := Lib.hid ht
  have HS := Lib.hid hsf
  clear hl hb d ht hsf
  go_enter Try.func37, Try.ntmps37
  go_wp2_with fail
  go_loopg [6, 9, 10, 20] A.length (fun gg vo _ _ vi wr => ∃ (i : Nat) (M : List Ab), vi = .int .i64 i ∧ i + gg = A.length ∧ M = (A.take i).map (loseA k t) ∧ wr.ownsRow w.heap.size 68 3 vo M.length (LF fV M) ∧ Below w.heap.size w wr)
  case atStart => exact ⟨0, [], rfl, by omega, by simp, row_nil _ _, Below.refl _ _⟩
  case round =>
    obtain ⟨i, M, rfl, hig, hM, ho, hB⟩ := hrel
    have hMl : M.length ≤ i := by rw [hM, List.length_map, List.length_take]; omega
    by_cases hlt : i < A.length
    · have hltI : (i : Int) < (A.length : Nat) := by omega
      obtain ⟨g, o, c', he, hg, hc, hrg, hob⟩ := HL.out.file hlt
      injection he with he1 _ he2
      subst he1 he2
      have Hrg := Lib.hid (range_below hrg hB hg)
      have hyl : A[i].2.1.length ≤ 1048576 := by have := tot_le (List.getElem_mem hlt); have := HT.out; omega
      have hys := HS.out _ (List.getElem_mem hlt)
      have HM := Lib.hid (show M ++ [loseA k t A[i]] = (A.take (i + 1)).map (loseA k t) by rw [List.take_succ_eq_append_getElem hlt, List.map_append, hM]; rfl)
      have HB := Lib.hid hB
      have Ho := Lib.hid ho
      generalize A[i] = y at *
      have hyS : (mkB y.2.1).size = y.2.1.length := mkB_size _
      have HK : Hid (keptN k y.2.1 y.2.2 = min (max k 0).toNat (y.2.1.length - y.2.2)) := Lib.hid rfl
      clear hrg hB hM ho
      go_wp2_with (first | (refine wpList_load_mid rfl 68 (.tmp 22) rfl g (o + i * 3) rfl (fV y) _ Hrg.out Try.underlying68 rfl (by rw [fV_len]; kernel_rfl) ?_) | (refine wpList_store_rowTo rfl 68 (.tmp 8) (.tmp 23) rfl rfl wr.heap.size (fV y).toArray rfl rfl 68 _ (heap_alloc_new wr _) (fV_size y) rfl (fV_all y) ?_; refine box_absL (boxL_made wr _ (fV y)) ?_; intro wx hbx; have HBx := Lib.hid hbx; have d0 : wx.cell? ⟨wr.heap.size, 0, none⟩ = some (.string y.1) := block_cell hbx.h 0; have d1 : wx.cell? ⟨wr.heap.size, 1, none⟩ = some (.string (mkB y.2.1)) := block_cell hbx.h 1; have d2 : wx.cell? ⟨wr.heap.size, 2, none⟩ = some (.int .i64 (y.2.2 : Nat)) := block_cell hbx.h 2; clear hbx))
      have HBo := Lib.hid (gen_own_below Ho.out HBx.out.b)
      have HBw := Lib.hid (HB.out.trans (HBx.out.b.mono HB.out.size))
      obtain ⟨gko, rfl⟩ : ∃ g, g = gk := ⟨gk, rfl⟩
      obtain ⟨wo, rfl⟩ : ∃ g, g = wr := ⟨wr, rfl⟩
      go_loopg [9] (keptN k y.2.1 y.2.2) (fun gg vn wr2 => ∃ n : Nat, vn = .int .i64 n ∧ n + gg = keptN k y.2.1 y.2.2 ∧ wr2 = wx)
      case atStart => exact ⟨0, rfl, by omega, rfl⟩
      case round =>
        obtain ⟨n, rfl, hng, rfl⟩ := hrel
        have hk1 := HK.out
        by_cases hlt2 : n < keptN k y.2.1 y.2.2
        · have e1 : decide ((n : Int) < k) = true := decide_eq_true (by omega)
          have e2 : decide ((y.2.2 : Int) + (n : Nat) < (y.2.1.length : Nat)) = true := decide_eq_true (by omega)
          have hn2 : n ≤ 1048576 := by omega
          have hn3 : (n : Int) < k := by omega
          have hn4 : (y.2.2 : Int) + (n : Nat) < (y.2.1.length : Nat) := by omega
          clear hk1
          go_wp2_with fail
          go_roundg (gk - 1)
          case measure => omega
          case rel => exact ⟨n + 1, by go_num, by omega, rfl⟩
        · have hnk : n = keptN k y.2.1 y.2.2 := by omega
          have hnn : n ≤ y.2.1.length - y.2.2 := by rw [hnk]; exact keptN_le _ _ _
          have hn2 : n ≤ 1048576 := by omega
          have hex : (mkB y.2.1).extract 0 (y.2.2 + n) = mkB (y.2.1.take (y.2.2 + n)) := mkB_take _ _
          have HNK := Lib.hid hnk
          have hlen : (y.2.1.take (y.2.2 + n)).length = y.2.2 + n := by rw [List.length_take]; omega
          have hlS : (mkB (y.2.1.take (y.2.2 + n))).size = y.2.2 + n := by rw [mkB_size, hlen]
          have hsn : (0 : Int) ≤ (y.2.2 : Int) + (n : Nat) := by omega
          have hsn2 : (y.2.2 : Int) + (n : Nat) ≤ (y.2.1.length : Nat) := by omega
          have hcase : ((n : Int) < k) → ¬ ((y.2.2 : Int) + (n : Nat) < (y.2.1.length : Nat)) := fun h1 => by omega
          have HEQ := Lib.hid hcase
          by_cases hc : 0 < n ∧ t = true
          · obtain ⟨hc0, rfl⟩ := hc
            obtain ⟨m, hm⟩ : ∃ m, m + 1 = y.2.2 + n := ⟨y.2.2 + n - 1, by omega⟩
            have hlo := lose_yes (k := k) (t := true) (y := y) hys hnk ⟨hc0, rfl⟩
            rw [hlo, show y.2.2 + n - 1 = m by omega] at HM
            have hxz : (y.2.1.take (y.2.2 + n)).getD m 0 = y.2.1.getD m 0 := by
              simp only [List.getD_eq_getElem?_getD]
              rw [List.getElem?_take_of_lt (by omega)]
            generalize y.2.1.take (y.2.2 + n) = E at *
            rw [← hxz] at HM
            have hEm : E.length = m + 1 := by omega
            have HIx := Lib.hid (ix_run E m (by omega))
            generalize E.getD m 0 = x at *
            have HXo := Lib.hid (xo_run x)
            generalize x ^^^ 255 = z at *
            have HEs : Hid ((mkB E).size = m + 1) := Lib.hid (by rw [mkB_size]; exact hEm)
            have HSl := Lib.hid (fun w9 => sl_run E m (by omega) w9)
            have HAd := Lib.hid (fun w9 => add_run (E.take m) [z] (by simp only [List.length_take, List.length_cons, List.length_nil]; omega) w9)
            have hElen : (E.take m ++ [z]).length = y.2.2 + n := by rw [List.length_append, List.length_take]; simp; omega
            have HW := Lib.hid (wrap_small m (by omega))
            have hm2 : m ≤ 1048576 := by omega
            have g0 : decide (0 < n) = true := decide_eq_true hc0
            have g0i : decide ((0 : Int) < (n : Nat)) = true := decide_eq_true (by omega)
            have hm1 : (mkB E).size = m + 1 := HEs.out
            have hE2 : (mkB (E.take m ++ [z])).size = y.2.2 + n := by rw [mkB_size]; exact hElen
            have HME : Hid (m + 1 = y.2.2 + n) := Lib.hid hm
            clear hlo hk1 hcase hnk hxz hlS hm hlen hEm hElen
            by_cases hkn : (n : Int) < k
            · have e1 : decide ((n : Int) < k) = true := decide_eq_true hkn
              have hq := HEQ.out hkn
              have e2 : decide ((y.2.2 : Int) + (n : Nat) < (y.2.1.length : Nat)) = false := decide_eq_false hq
              go_wp2_with fail
              have hd4 : Below wr.heap.size wr wr.drew := (Below.refl _ _).drew
              have hRL : ∃ Rs : List (Value → World → Prop), Rs = [K3.PureV (.string (mkB E)),
                  K3.PureV (.string (mkB E)),
                  K3.PureV (.int .i64 ((m : Nat) + 1)),
                  K3.PureV (.int .i64 (m : Nat)),
                  K3.PureV (.string (mkB (E.take m))),
                  K3.PureV (.string (mkB E)),
                  K3.PureV (.string (mkB E)),
                  K3.PureV (.int .i64 ((m : Nat) + 1)),
                  K3.PureV (.int .i64 (m : Nat)),
                  K3.PureV (.int .u8 (x.toNat : Nat)),
                  K3.PureV (.int .u8 (z.toNat : Nat)),
                  K3.NewB 1 #[.int .u8 (z.toNat : Nat)] 5,
                  K3.PureV (.string (mkB [z])),
                  K3.PureV (.string (mkB (E.take m ++ [z]))),
                  K3.PureV (.string (mkB (E.take m ++ [z])))] := ⟨_, rfl⟩
              obtain ⟨Rs, hRs⟩ := hRL
              refine K3.wp_region_rel2 wr.heap.size (Nat.le_refl _) (K3.RL Rs) [2, 2, 2, 2, 2, 2, 2, 2, 2, 2, 2, 1, 2, 2, 2] [1, 1, 1, 1, 1, 1, 1, 1, 1, 1, 1, 1, 1, 1, 1] [] (by kernel_rfl) (by kernel_rfl) (K3.RL.st1 (by rw [hRs]; exact K3.st1_cons (K3.PureV.st1 _) (K3.st1_cons (K3.PureV.st1 _) (K3.st1_cons (K3.PureV.st1 _) (K3.st1_cons (K3.PureV.st1 _) (K3.st1_cons (K3.PureV.st1 _) (K3.st1_cons (K3.PureV.st1 _) (K3.st1_cons (K3.PureV.st1 _) (K3.st1_cons (K3.PureV.st1 _) (K3.st1_cons (K3.PureV.st1 _) (K3.st1_cons (K3.PureV.st1 _) (K3.st1_cons (K3.PureV.st1 _) (K3.st1_cons (K3.NewB.st1 _ _ _) (K3.st1_cons (K3.PureV.st1 _) (K3.st1_cons (K3.PureV.st1 _) (K3.st1_cons (K3.PureV.st1 _) (K3.st1_nil))))))))))))))))) (K3.RL.st2 (by rw [hRs]; exact K3.st2_cons (K3.PureV.st2 _ _ _) (K3.st2_cons (K3.PureV.st2 _ _ _) (K3.st2_cons (K3.PureV.st2 _ _ _) (K3.st2_cons (K3.PureV.st2 _ _ _) (K3.st2_cons (K3.PureV.st2 _ _ _) (K3.st2_cons (K3.PureV.st2 _ _ _) (K3.st2_cons (K3.PureV.st2 _ _ _) (K3.st2_cons (K3.PureV.st2 _ _ _) (K3.st2_cons (K3.PureV.st2 _ _ _) (K3.st2_cons (K3.PureV.st2 _ _ _) (K3.st2_cons (K3.PureV.st2 _ _ _) (K3.st2_skip (K3.st2_cons (K3.PureV.st2 _ _ _) (K3.st2_cons (K3.PureV.st2 _ _ _) (K3.st2_cons (K3.PureV.st2 _ _ _) (K3.st2_nil))))))))))))))))) ?_ ?_ ?_
              · intro i o d hi hd
                have hmem := List.mem_of_getElem? hi
                simp only [List.mem_cons, List.not_mem_nil, or_false] at hmem
                rcases hmem with rfl | rfl | rfl | rfl | rfl | rfl | rfl | rfl | rfl | rfl | rfl | rfl | rfl | rfl | rfl <;> simp at hd <;> (subst hd; simp)
              · refine K3.rel_start (Φ := K3.Hop _ _ _ _ _ _ _) ?_
                refine K3.rel_cons (Φ := K3.Hop _ _ _ _ _ _ _) (k := 0) ?_ ?_
                · intro fa fw hfB hfN hfE hfk hft
                  have k10 : fa.eval (.tmp 10) = .string (mkB E) := hft 10 (K3.mem_looks (by kernel_rfl)) (K3.noneed (by kernel_rfl))
                  rw [hRs]
                  refine K3.hop_plain rfl ?_
                  refine K3.out_move rfl ?_
                  exact ⟨k10, Below.refl _ _⟩
                refine K3.rel_cons (Φ := K3.Hop _ _ _ _ _ _ _) (k := 1) ?_ ?_
                · intro fa fw hfB hfN hfE hfk hft
                  have k10 : fa.eval (.tmp 10) = .string (mkB E) := hft 10 (K3.mem_looks (by kernel_rfl)) (K3.noneed (by kernel_rfl))
                  rw [hRs]
                  refine K3.hop_plain rfl ?_
                  refine K3.out_move rfl ?_
                  exact ⟨k10, Below.refl _ _⟩
                refine K3.rel_cons (Φ := K3.Hop _ _ _ _ _ _ _) (k := 2) ?_ ?_
                · intro fa fw hfB hfN hfE hfk hft
                  have k52 : fa.eval (.tmp 52) = (.string (mkB E)) := by have := hfk 1 (K3.mem_needs (by kernel_rfl)) _ rfl; rw [hRs] at this; exact this
                  rw [hRs]
                  refine K3.hop_plain rfl ?_
                  have kc : ∀ v, fa.eval (.const v) = v := fun _ => rfl
                  generalize fa.eval = ρ at *
                  exact K3.out_run (v := .int .i64 ((m : Nat) + 1)) (w' := fw) (by simp [execOp, kc, k52, go_sem, HEs.out]) ⟨rfl, Below.refl _ _⟩
                refine K3.rel_cons (Φ := K3.Hop _ _ _ _ _ _ _) (k := 3) ?_ ?_
                · intro fa fw hfB hfN hfE hfk hft
                  have k53 : fa.eval (.tmp 53) = (.int .i64 ((m : Nat) + 1)) := by have := hfk 2 (K3.mem_needs (by kernel_rfl)) _ rfl; rw [hRs] at this; exact this
                  rw [hRs]
                  refine K3.hop_plain rfl ?_
                  have kc : ∀ v, fa.eval (.const v) = v := fun _ => rfl
                  generalize fa.eval = ρ at *
                  exact K3.out_run (v := .int .i64 (m : Nat)) (w' := fw) (by simp [execOp, kc, k53, go_sem, HW.out]) ⟨rfl, Below.refl _ _⟩
                refine K3.rel_cons (Φ := K3.Hop _ _ _ _ _ _ _) (k := 4) ?_ ?_
                · intro fa fw hfB hfN hfE hfk hft
                  have k51 : fa.eval (.tmp 51) = (.string (mkB E)) := by have := hfk 0 (K3.mem_needs (by kernel_rfl)) _ rfl; rw [hRs] at this; exact this
                  have k54 : fa.eval (.tmp 54) = (.int .i64 (m : Nat)) := by have := hfk 3 (K3.mem_needs (by kernel_rfl)) _ rfl; rw [hRs] at this; exact this
                  rw [hRs]
                  refine K3.hop_plain rfl ?_
                  have kc : ∀ v, fa.eval (.const v) = v := fun _ => rfl
                  generalize fa.eval = ρ at *
                  exact K3.out_run (v := .string (mkB (E.take m))) (w' := fw) (by unfold execOp; simp only [Option.map, kc, k51, k54, Sem.run_bind, HSl.out, Result.andThen_ok, Sem.run_pure]) ⟨rfl, Below.refl _ _⟩
                refine K3.rel_cons (Φ := K3.Hop _ _ _ _ _ _ _) (k := 5) ?_ ?_
                · intro fa fw hfB hfN hfE hfk hft
                  have k10 : fa.eval (.tmp 10) = .string (mkB E) := hft 10 (K3.mem_looks (by kernel_rfl)) (K3.noneed (by kernel_rfl))
                  rw [hRs]
                  refine K3.hop_plain rfl ?_
                  refine K3.out_move rfl ?_
                  exact ⟨k10, Below.refl _ _⟩
                refine K3.rel_cons (Φ := K3.Hop _ _ _ _ _ _ _) (k := 6) ?_ ?_
                · intro fa fw hfB hfN hfE hfk hft
                  have k10 : fa.eval (.tmp 10) = .string (mkB E) := hft 10 (K3.mem_looks (by kernel_rfl)) (K3.noneed (by kernel_rfl))
                  rw [hRs]
                  refine K3.hop_plain rfl ?_
                  refine K3.out_move rfl ?_
                  exact ⟨k10, Below.refl _ _⟩
                refine K3.rel_cons (Φ := K3.Hop _ _ _ _ _ _ _) (k := 7) ?_ ?_
                · intro fa fw hfB hfN hfE hfk hft
                  have k57 : fa.eval (.tmp 57) = (.string (mkB E)) := by have := hfk 6 (K3.mem_needs (by kernel_rfl)) _ rfl; rw [hRs] at this; exact this
                  rw [hRs]
                  refine K3.hop_plain rfl ?_
                  have kc : ∀ v, fa.eval (.const v) = v := fun _ => rfl
                  generalize fa.eval = ρ at *
                  exact K3.out_run (v := .int .i64 ((m : Nat) + 1)) (w' := fw) (by simp [execOp, kc, k57, go_sem, HEs.out]) ⟨rfl, Below.refl _ _⟩
                refine K3.rel_cons (Φ := K3.Hop _ _ _ _ _ _ _) (k := 8) ?_ ?_
                · intro fa fw hfB hfN hfE hfk hft
                  have k58 : fa.eval (.tmp 58) = (.int .i64 ((m : Nat) + 1)) := by have := hfk 7 (K3.mem_needs (by kernel_rfl)) _ rfl; rw [hRs] at this; exact this
                  rw [hRs]
                  refine K3.hop_plain rfl ?_
                  have kc : ∀ v, fa.eval (.const v) = v := fun _ => rfl
                  generalize fa.eval = ρ at *
                  exact K3.out_run (v := .int .i64 (m : Nat)) (w' := fw) (by simp [execOp, kc, k58, go_sem, HW.out]) ⟨rfl, Below.refl _ _⟩
                refine K3.rel_cons (Φ := K3.Hop _ _ _ _ _ _ _) (k := 9) ?_ ?_
                · intro fa fw hfB hfN hfE hfk hft
                  have k56 : fa.eval (.tmp 56) = (.string (mkB E)) := by have := hfk 5 (K3.mem_needs (by kernel_rfl)) _ rfl; rw [hRs] at this; exact this
                  have k59 : fa.eval (.tmp 59) = (.int .i64 (m : Nat)) := by have := hfk 8 (K3.mem_needs (by kernel_rfl)) _ rfl; rw [hRs] at this; exact this
                  rw [hRs]
                  refine K3.hop_plain rfl ?_
                  have kc : ∀ v, fa.eval (.const v) = v := fun _ => rfl
                  generalize fa.eval = ρ at *
                  exact K3.out_run (v := .int .u8 (x.toNat : Nat)) (w' := fw) (by unfold execOp; simp only [Option.map, kc, k56, k59, Sem.run_bind, HIx.out, Result.andThen_ok, Sem.run_pure]) ⟨rfl, Below.refl _ _⟩
                refine K3.rel_cons (Φ := K3.Hop _ _ _ _ _ _ _) (k := 10) ?_ ?_
                · intro fa fw hfB hfN hfE hfk hft
                  have k60 : fa.eval (.tmp 60) = (.int .u8 (x.toNat : Nat)) := by have := hfk 9 (K3.mem_needs (by kernel_rfl)) _ rfl; rw [hRs] at this; exact this
                  rw [hRs]
                  refine K3.hop_plain rfl ?_
                  have kc : ∀ v, fa.eval (.const v) = v := fun _ => rfl
                  generalize fa.eval = ρ at *
                  exact K3.out_run (v := .int .u8 (z.toNat : Nat)) (w' := fw) (by unfold execOp; simp only [Option.map, kc, k60, Sem.run_bind, HXo.out, Result.andThen_ok, Sem.run_pure]) ⟨rfl, Below.refl _ _⟩
                refine K3.rel_cons (Φ := K3.Hop _ _ _ _ _ _ _) (k := 11) ?_ ?_
                · intro fa fw hfB hfN hfE hfk hft
                  have k61 : fa.eval (.tmp 61) = (.int .u8 (z.toNat : Nat)) := by have := hfk 10 (K3.mem_needs (by kernel_rfl)) _ rfl; rw [hRs] at this; exact this
                  rw [hRs]
                  refine K3.hop_plain rfl ?_
                  have kc : ∀ v, fa.eval (.const v) = v := fun _ => rfl
                  generalize fa.eval = ρ at *
                  exact K3.out_run (v := .slice (some ⟨fw.heap.size, 0, none⟩) 1 1) (w' := fw.alloc (.cells #[.int .u8 (z.toNat : Nat)] 5)) (by simp [execOp, kc, k61, go_sem]) ⟨⟨_, rfl, heap_alloc_new _ _⟩, (Below.refl _ _).alloc (Nat.le_refl _) _⟩
                refine K3.rel_cons (Φ := K3.Hop _ _ _ _ _ _ _) (k := 12) ?_ ?_
                · intro fa fw hfB hfN hfE hfk hft
                  have k62 : (K3.NewB 1 #[.int .u8 (z.toNat : Nat)] 5) (fa.eval (.tmp 62)) fw := by have := hfk 11 (K3.mem_needs (by kernel_rfl)) _ rfl; rw [hRs] at this; exact this
                  rw [hRs]
                  refine K3.hop_plain rfl ?_
                  obtain ⟨B, hb1, hb2⟩ := k62
                  have hcv := conv_one hb2
                  generalize fa.eval = ρ at *
                  exact K3.out_run (v := .string (mkB [z])) (w' := fw) (by unfold execOp; simp only [Option.map, show ρ (.tmp 62) = _ from hb1, Sem.run_bind, hcv, Result.andThen_ok, Sem.run_pure]) ⟨rfl, Below.refl _ _⟩
                refine K3.rel_cons (Φ := K3.Hop _ _ _ _ _ _ _) (k := 13) ?_ ?_
                · intro fa fw hfB hfN hfE hfk hft
                  have k55 : fa.eval (.tmp 55) = (.string (mkB (E.take m))) := by have := hfk 4 (K3.mem_needs (by kernel_rfl)) _ rfl; rw [hRs] at this; exact this
                  have k63 : fa.eval (.tmp 63) = (.string (mkB [z])) := by have := hfk 12 (K3.mem_needs (by kernel_rfl)) _ rfl; rw [hRs] at this; exact this
                  rw [hRs]
                  refine K3.hop_plain rfl ?_
                  have kc : ∀ v, fa.eval (.const v) = v := fun _ => rfl
                  have hgd : ∀ x y a b, (eqGuard BinOp.add 9 x y a b).run Try.prog fw = .ok () fw := fun _ _ _ _ => rfl
                  generalize fa.eval = ρ at *
                  exact K3.out_run (v := .string (mkB (E.take m ++ [z]))) (w' := fw) (by unfold execOp; simp only [Option.map, kc, k55, k63, Sem.run_bind, hgd, HAd.out, Result.andThen_ok, Sem.run_pure]) ⟨rfl, Below.refl _ _⟩
                refine K3.rel_cons (Φ := K3.Hop _ _ _ _ _ _ _) (k := 14) ?_ ?_
                · intro fa fw hfB hfN hfE hfk hft
                  have k64 : fa.eval (.tmp 64) = (.string (mkB (E.take m ++ [z]))) := by have := hfk 13 (K3.mem_needs (by kernel_rfl)) _ rfl; rw [hRs] at this; exact this
                  rw [hRs]
                  refine K3.hop_plain rfl ?_
                  refine K3.out_assign rfl ?_
                  exact ⟨k64, Below.refl _ _⟩
                exact K3.rel_nil
              · intro fa fw hfB hfy hff hfs hfd
                rw [hRs] at hfy
                have k10 : fa.eval (.tmp 10) = (.string (mkB (E.take m ++ [z]))) := hfy 14 _ rfl (K3.unkilled (by decide))
                have HBf := Lib.hid (show Below wr.heap.size wr fw from hd4.trans hfB)
                clear hfB
                have e := K3.rel_frame [51, 52, 53, 54, 55, 56, 57, 58, 59, 60, 61, 62, 63, 64, 10] (by kernel_rfl) hff hfs hfd
                simp only [List.foldl] at e
                rw [show fa.tmps.getD 10 undef = .string (mkB (E.take m ++ [z])) from k10] at e
                clear hfy hff hfs hfd k10
                generalize fa.tmps.getD 51 undef = x51 at e
                generalize fa.tmps.getD 52 undef = x52 at e
                generalize fa.tmps.getD 53 undef = x53 at e
                generalize fa.tmps.getD 54 undef = x54 at e
                generalize fa.tmps.getD 55 undef = x55 at e
                generalize fa.tmps.getD 56 undef = x56 at e
                generalize fa.tmps.getD 57 undef = x57 at e
                generalize fa.tmps.getD 58 undef = x58 at e
                generalize fa.tmps.getD 59 undef = x59 at e
                generalize fa.tmps.getD 60 undef = x60 at e
                generalize fa.tmps.getD 61 undef = x61 at e
                generalize fa.tmps.getD 62 undef = x62 at e
                generalize fa.tmps.getD 63 undef = x63 at e
                generalize fa.tmps.getD 64 undef = x64 at e
                simp [List.setIfInBounds_toArray, List.set_cons_succ, List.set_cons_zero] at e
                subst e
                have HBv := Lib.hid (HBw.out.trans (HBf.out.mono HBw.out.size))
                have HBp := Lib.hid (gen_own_below HBo.out HBf.out)
                have d0f : fw.cell? ⟨wo.heap.size, 0, none⟩ = some (.string y.1) := block_cell ((HBf.out.block wo.heap.size (lt_of_block HBx.out.h)).trans HBx.out.h) 0
                go_wp2_with (first | (at_builtin; refine wpList_append_gen eltF rfl (.tmp 65) (.tmp 72) rfl rfl w.heap.size _ (M) rfl (gen_own_below HBp.out ((Below.refl _ _).alloc (Nat.le_refl _) _)) _ [(y.1, E.take m ++ [z], y.2.2 + n)] (LAt.block (fV_len _) (by simp [fV]) (heap_alloc_new _ _)) rfl (by simp only [List.length_cons, List.length_nil, List.length_append]; omega) (by unfold maxLen; simp only [List.length_cons, List.length_nil, List.length_append]; omega) (by have := HBv.out.size; simp; omega) ?_; intro v3 w3 ho3 hg3))
                have HP := Lib.hid (row_put HBv.out HBp.out hg3)
                have Ho3 := Lib.hid ho3
                clear ho3 hg3
                go_wp2_with fail
                go_roundg (gko - 1)
                case measure => omega
                case rel => exact ⟨i + 1, M ++ [(y.1, E.take m ++ [z], y.2.2 + n)], by go_num, by omega, HM.out, Ho3.out, HP.out.1⟩
            · have e1 : decide ((n : Int) < k) = false := decide_eq_false hkn
              go_wp2_with fail
              have hd4 : Below wr.heap.size wr wr.drew := (Below.refl _ _).drew
              have hRL : ∃ Rs : List (Value → World → Prop), Rs = [K3.PureV (.string (mkB E)),
                  K3.PureV (.string (mkB E)),
                  K3.PureV (.int .i64 ((m : Nat) + 1)),
                  K3.PureV (.int .i64 (m : Nat)),
                  K3.PureV (.string (mkB (E.take m))),
                  K3.PureV (.string (mkB E)),
                  K3.PureV (.string (mkB E)),
                  K3.PureV (.int .i64 ((m : Nat) + 1)),
                  K3.PureV (.int .i64 (m : Nat)),
                  K3.PureV (.int .u8 (x.toNat : Nat)),
                  K3.PureV (.int .u8 (z.toNat : Nat)),
                  K3.NewB 1 #[.int .u8 (z.toNat : Nat)] 5,
                  K3.PureV (.string (mkB [z])),
                  K3.PureV (.string (mkB (E.take m ++ [z]))),
                  K3.PureV (.string (mkB (E.take m ++ [z])))] := ⟨_, rfl⟩
              obtain ⟨Rs, hRs⟩ := hRL
              refine K3.wp_region_rel2 wr.heap.size (Nat.le_refl _) (K3.RL Rs) [2, 2, 2, 2, 2, 2, 2, 2, 2, 2, 2, 1, 2, 2, 2] [1, 1, 1, 1, 1, 1, 1, 1, 1, 1, 1, 1, 1, 1, 1] [] (by kernel_rfl) (by kernel_rfl) (K3.RL.st1 (by rw [hRs]; exact K3.st1_cons (K3.PureV.st1 _) (K3.st1_cons (K3.PureV.st1 _) (K3.st1_cons (K3.PureV.st1 _) (K3.st1_cons (K3.PureV.st1 _) (K3.st1_cons (K3.PureV.st1 _) (K3.st1_cons (K3.PureV.st1 _) (K3.st1_cons (K3.PureV.st1 _) (K3.st1_cons (K3.PureV.st1 _) (K3.st1_cons (K3.PureV.st1 _) (K3.st1_cons (K3.PureV.st1 _) (K3.st1_cons (K3.PureV.st1 _) (K3.st1_cons (K3.NewB.st1 _ _ _) (K3.st1_cons (K3.PureV.st1 _) (K3.st1_cons (K3.PureV.st1 _) (K3.st1_cons (K3.PureV.st1 _) (K3.st1_nil))))))))))))))))) (K3.RL.st2 (by rw [hRs]; exact K3.st2_cons (K3.PureV.st2 _ _ _) (K3.st2_cons (K3.PureV.st2 _ _ _) (K3.st2_cons (K3.PureV.st2 _ _ _) (K3.st2_cons (K3.PureV.st2 _ _ _) (K3.st2_cons (K3.PureV.st2 _ _ _) (K3.st2_cons (K3.PureV.st2 _ _ _) (K3.st2_cons (K3.PureV.st2 _ _ _) (K3.st2_cons (K3.PureV.st2 _ _ _) (K3.st2_cons (K3.PureV.st2 _ _ _) (K3.st2_cons (K3.PureV.st2 _ _ _) (K3.st2_cons (K3.PureV.st2 _ _ _) (K3.st2_skip (K3.st2_cons (K3.PureV.st2 _ _ _) (K3.st2_cons (K3.PureV.st2 _ _ _) (K3.st2_cons (K3.PureV.st2 _ _ _) (K3.st2_nil))))))))))))))))) ?_ ?_ ?_
              · intro i o d hi hd
                have hmem := List.mem_of_getElem? hi
                simp only [List.mem_cons, List.not_mem_nil, or_false] at hmem
                rcases hmem with rfl | rfl | rfl | rfl | rfl | rfl | rfl | rfl | rfl | rfl | rfl | rfl | rfl | rfl | rfl <;> simp at hd <;> (subst hd; simp)
              · refine K3.rel_start (Φ := K3.Hop _ _ _ _ _ _ _) ?_
                refine K3.rel_cons (Φ := K3.Hop _ _ _ _ _ _ _) (k := 0) ?_ ?_
                · intro fa fw hfB hfN hfE hfk hft
                  have k10 : fa.eval (.tmp 10) = .string (mkB E) := hft 10 (K3.mem_looks (by kernel_rfl)) (K3.noneed (by kernel_rfl))
                  rw [hRs]
                  refine K3.hop_plain rfl ?_
                  refine K3.out_move rfl ?_
                  exact ⟨k10, Below.refl _ _⟩
                refine K3.rel_cons (Φ := K3.Hop _ _ _ _ _ _ _) (k := 1) ?_ ?_
                · intro fa fw hfB hfN hfE hfk hft
                  have k10 : fa.eval (.tmp 10) = .string (mkB E) := hft 10 (K3.mem_looks (by kernel_rfl)) (K3.noneed (by kernel_rfl))
                  rw [hRs]
                  refine K3.hop_plain rfl ?_
                  refine K3.out_move rfl ?_
                  exact ⟨k10, Below.refl _ _⟩
                refine K3.rel_cons (Φ := K3.Hop _ _ _ _ _ _ _) (k := 2) ?_ ?_
                · intro fa fw hfB hfN hfE hfk hft
                  have k52 : fa.eval (.tmp 52) = (.string (mkB E)) := by have := hfk 1 (K3.mem_needs (by kernel_rfl)) _ rfl; rw [hRs] at this; exact this
                  rw [hRs]
                  refine K3.hop_plain rfl ?_
                  have kc : ∀ v, fa.eval (.const v) = v := fun _ => rfl
                  generalize fa.eval = ρ at *
                  exact K3.out_run (v := .int .i64 ((m : Nat) + 1)) (w' := fw) (by simp [execOp, kc, k52, go_sem, HEs.out]) ⟨rfl, Below.refl _ _⟩
                refine K3.rel_cons (Φ := K3.Hop _ _ _ _ _ _ _) (k := 3) ?_ ?_
                · intro fa fw hfB hfN hfE hfk hft
                  have k53 : fa.eval (.tmp 53) = (.int .i64 ((m : Nat) + 1)) := by have := hfk 2 (K3.mem_needs (by kernel_rfl)) _ rfl; rw [hRs] at this; exact this
                  rw [hRs]
                  refine K3.hop_plain rfl ?_
                  have kc : ∀ v, fa.eval (.const v) = v := fun _ => rfl
                  generalize fa.eval = ρ at *
                  exact K3.out_run (v := .int .i64 (m : Nat)) (w' := fw) (by simp [execOp, kc, k53, go_sem, HW.out]) ⟨rfl, Below.refl _ _⟩
                refine K3.rel_cons (Φ := K3.Hop _ _ _ _ _ _ _) (k := 4) ?_ ?_
                · intro fa fw hfB hfN hfE hfk hft
                  have k51 : fa.eval (.tmp 51) = (.string (mkB E)) := by have := hfk 0 (K3.mem_needs (by kernel_rfl)) _ rfl; rw [hRs] at this; exact this
                  have k54 : fa.eval (.tmp 54) = (.int .i64 (m : Nat)) := by have := hfk 3 (K3.mem_needs (by kernel_rfl)) _ rfl; rw [hRs] at this; exact this
                  rw [hRs]
                  refine K3.hop_plain rfl ?_
                  have kc : ∀ v, fa.eval (.const v) = v := fun _ => rfl
                  generalize fa.eval = ρ at *
                  exact K3.out_run (v := .string (mkB (E.take m))) (w' := fw) (by unfold execOp; simp only [Option.map, kc, k51, k54, Sem.run_bind, HSl.out, Result.andThen_ok, Sem.run_pure]) ⟨rfl, Below.refl _ _⟩
                refine K3.rel_cons (Φ := K3.Hop _ _ _ _ _ _ _) (k := 5) ?_ ?_
                · intro fa fw hfB hfN hfE hfk hft
                  have k10 : fa.eval (.tmp 10) = .string (mkB E) := hft 10 (K3.mem_looks (by kernel_rfl)) (K3.noneed (by kernel_rfl))
                  rw [hRs]
                  refine K3.hop_plain rfl ?_
                  refine K3.out_move rfl ?_
                  exact ⟨k10, Below.refl _ _⟩
                refine K3.rel_cons (Φ := K3.Hop _ _ _ _ _ _ _) (k := 6) ?_ ?_
                · intro fa fw hfB hfN hfE hfk hft
                  have k10 : fa.eval (.tmp 10) = .string (mkB E) := hft 10 (K3.mem_looks (by kernel_rfl)) (K3.noneed (by kernel_rfl))
                  rw [hRs]
                  refine K3.hop_plain rfl ?_
                  refine K3.out_move rfl ?_
                  exact ⟨k10, Below.refl _ _⟩
                refine K3.rel_cons (Φ := K3.Hop _ _ _ _ _ _ _) (k := 7) ?_ ?_
                · intro fa fw hfB hfN hfE hfk hft
                  have k57 : fa.eval (.tmp 57) = (.string (mkB E)) := by have := hfk 6 (K3.mem_needs (by kernel_rfl)) _ rfl; rw [hRs] at this; exact this
                  rw [hRs]
                  refine K3.hop_plain rfl ?_
                  have kc : ∀ v, fa.eval (.const v) = v := fun _ => rfl
                  generalize fa.eval = ρ at *
                  exact K3.out_run (v := .int .i64 ((m : Nat) + 1)) (w' := fw) (by simp [execOp, kc, k57, go_sem, HEs.out]) ⟨rfl, Below.refl _ _⟩
                refine K3.rel_cons (Φ := K3.Hop _ _ _ _ _ _ _) (k := 8) ?_ ?_
                · intro fa fw hfB hfN hfE hfk hft
                  have k58 : fa.eval (.tmp 58) = (.int .i64 ((m : Nat) + 1)) := by have := hfk 7 (K3.mem_needs (by kernel_rfl)) _ rfl; rw [hRs] at this; exact this
                  rw [hRs]
                  refine K3.hop_plain rfl ?_
                  have kc : ∀ v, fa.eval (.const v) = v := fun _ => rfl
                  generalize fa.eval = ρ at *
                  exact K3.out_run (v := .int .i64 (m : Nat)) (w' := fw) (by simp [execOp, kc, k58, go_sem, HW.out]) ⟨rfl, Below.refl _ _⟩
                refine K3.rel_cons (Φ := K3.Hop _ _ _ _ _ _ _) (k := 9) ?_ ?_
                · intro fa fw hfB hfN hfE hfk hft
                  have k56 : fa.eval (.tmp 56) = (.string (mkB E)) := by have := hfk 5 (K3.mem_needs (by kernel_rfl)) _ rfl; rw [hRs] at this; exact this
                  have k59 : fa.eval (.tmp 59) = (.int .i64 (m : Nat)) := by have := hfk 8 (K3.mem_needs (by kernel_rfl)) _ rfl; rw [hRs] at this; exact this
                  rw [hRs]
                  refine K3.hop_plain rfl ?_
                  have kc : ∀ v, fa.eval (.const v) = v := fun _ => rfl
                  generalize fa.eval = ρ at *
                  exact K3.out_run (v := .int .u8 (x.toNat : Nat)) (w' := fw) (by unfold execOp; simp only [Option.map, kc, k56, k59, Sem.run_bind, HIx.out, Result.andThen_ok, Sem.run_pure]) ⟨rfl, Below.refl _ _⟩
                refine K3.rel_cons (Φ := K3.Hop _ _ _ _ _ _ _) (k := 10) ?_ ?_
                · intro fa fw hfB hfN hfE hfk hft
                  have k60 : fa.eval (.tmp 60) = (.int .u8 (x.toNat : Nat)) := by have := hfk 9 (K3.mem_needs (by kernel_rfl)) _ rfl; rw [hRs] at this; exact this
                  rw [hRs]
                  refine K3.hop_plain rfl ?_
                  have kc : ∀ v, fa.eval (.const v) = v := fun _ => rfl
                  generalize fa.eval = ρ at *
                  exact K3.out_run (v := .int .u8 (z.toNat : Nat)) (w' := fw) (by unfold execOp; simp only [Option.map, kc, k60, Sem.run_bind, HXo.out, Result.andThen_ok, Sem.run_pure]) ⟨rfl, Below.refl _ _⟩
                refine K3.rel_cons (Φ := K3.Hop _ _ _ _ _ _ _) (k := 11) ?_ ?_
                · intro fa fw hfB hfN hfE hfk hft
                  have k61 : fa.eval (.tmp 61) = (.int .u8 (z.toNat : Nat)) := by have := hfk 10 (K3.mem_needs (by kernel_rfl)) _ rfl; rw [hRs] at this; exact this
                  rw [hRs]
                  refine K3.hop_plain rfl ?_
                  have kc : ∀ v, fa.eval (.const v) = v := fun _ => rfl
                  generalize fa.eval = ρ at *
                  exact K3.out_run (v := .slice (some ⟨fw.heap.size, 0, none⟩) 1 1) (w' := fw.alloc (.cells #[.int .u8 (z.toNat : Nat)] 5)) (by simp [execOp, kc, k61, go_sem]) ⟨⟨_, rfl, heap_alloc_new _ _⟩, (Below.refl _ _).alloc (Nat.le_refl _) _⟩
                refine K3.rel_cons (Φ := K3.Hop _ _ _ _ _ _ _) (k := 12) ?_ ?_
                · intro fa fw hfB hfN hfE hfk hft
                  have k62 : (K3.NewB 1 #[.int .u8 (z.toNat : Nat)] 5) (fa.eval (.tmp 62)) fw := by have := hfk 11 (K3.mem_needs (by kernel_rfl)) _ rfl; rw [hRs] at this; exact this
                  rw [hRs]
                  refine K3.hop_plain rfl ?_
                  obtain ⟨B, hb1, hb2⟩ := k62
                  have hcv := conv_one hb2
                  generalize fa.eval = ρ at *
                  exact K3.out_run (v := .string (mkB [z])) (w' := fw) (by unfold execOp; simp only [Option.map, show ρ (.tmp 62) = _ from hb1, Sem.run_bind, hcv, Result.andThen_ok, Sem.run_pure]) ⟨rfl, Below.refl _ _⟩
                refine K3.rel_cons (Φ := K3.Hop _ _ _ _ _ _ _) (k := 13) ?_ ?_
                · intro fa fw hfB hfN hfE hfk hft
                  have k55 : fa.eval (.tmp 55) = (.string (mkB (E.take m))) := by have := hfk 4 (K3.mem_needs (by kernel_rfl)) _ rfl; rw [hRs] at this; exact this
                  have k63 : fa.eval (.tmp 63) = (.string (mkB [z])) := by have := hfk 12 (K3.mem_needs (by kernel_rfl)) _ rfl; rw [hRs] at this; exact this
                  rw [hRs]
                  refine K3.hop_plain rfl ?_
                  have kc : ∀ v, fa.eval (.const v) = v := fun _ => rfl
                  have hgd : ∀ x y a b, (eqGuard BinOp.add 9 x y a b).run Try.prog fw = .ok () fw := fun _ _ _ _ => rfl
                  generalize fa.eval = ρ at *
                  exact K3.out_run (v := .string (mkB (E.take m ++ [z]))) (w' := fw) (by unfold execOp; simp only [Option.map, kc, k55, k63, Sem.run_bind, hgd, HAd.out, Result.andThen_ok, Sem.run_pure]) ⟨rfl, Below.refl _ _⟩
                refine K3.rel_cons (Φ := K3.Hop _ _ _ _ _ _ _) (k := 14) ?_ ?_
                · intro fa fw hfB hfN hfE hfk hft
                  have k64 : fa.eval (.tmp 64) = (.string (mkB (E.take m ++ [z]))) := by have := hfk 13 (K3.mem_needs (by kernel_rfl)) _ rfl; rw [hRs] at this; exact this
                  rw [hRs]
                  refine K3.hop_plain rfl ?_
                  refine K3.out_assign rfl ?_
                  exact ⟨k64, Below.refl _ _⟩
                exact K3.rel_nil
              · intro fa fw hfB hfy hff hfs hfd
                rw [hRs] at hfy
                have k10 : fa.eval (.tmp 10) = (.string (mkB (E.take m ++ [z]))) := hfy 14 _ rfl (K3.unkilled (by decide))
                have HBf := Lib.hid (show Below wr.heap.size wr fw from hd4.trans hfB)
                clear hfB
                have e := K3.rel_frame [51, 52, 53, 54, 55, 56, 57, 58, 59, 60, 61, 62, 63, 64, 10] (by kernel_rfl) hff hfs hfd
                simp only [List.foldl] at e
                rw [show fa.tmps.getD 10 undef = .string (mkB (E.take m ++ [z])) from k10] at e
                clear hfy hff hfs hfd k10
                generalize fa.tmps.getD 51 undef = x51 at e
                generalize fa.tmps.getD 52 undef = x52 at e
                generalize fa.tmps.getD 53 undef = x53 at e
                generalize fa.tmps.getD 54 undef = x54 at e
                generalize fa.tmps.getD 55 undef = x55 at e
                generalize fa.tmps.getD 56 undef = x56 at e
                generalize fa.tmps.getD 57 undef = x57 at e
                generalize fa.tmps.getD 58 undef = x58 at e
                generalize fa.tmps.getD 59 undef = x59 at e
                generalize fa.tmps.getD 60 undef = x60 at e
                generalize fa.tmps.getD 61 undef = x61 at e
                generalize fa.tmps.getD 62 undef = x62 at e
                generalize fa.tmps.getD 63 undef = x63 at e
                generalize fa.tmps.getD 64 undef = x64 at e
                simp [List.setIfInBounds_toArray, List.set_cons_succ, List.set_cons_zero] at e
                subst e
                have HBv := Lib.hid (HBw.out.trans (HBf.out.mono HBw.out.size))
                have HBp := Lib.hid (gen_own_below HBo.out HBf.out)
                have d0f : fw.cell? ⟨wo.heap.size, 0, none⟩ = some (.string y.1) := block_cell ((HBf.out.block wo.heap.size (lt_of_block HBx.out.h)).trans HBx.out.h) 0
                go_wp2_with (first | (at_builtin; refine wpList_append_gen eltF rfl (.tmp 65) (.tmp 72) rfl rfl w.heap.size _ (M) rfl (gen_own_below HBp.out ((Below.refl _ _).alloc (Nat.le_refl _) _)) _ [(y.1, E.take m ++ [z], y.2.2 + n)] (LAt.block (fV_len _) (by simp [fV]) (heap_alloc_new _ _)) rfl (by simp only [List.length_cons, List.length_nil, List.length_append]; omega) (by unfold maxLen; simp only [List.length_cons, List.length_nil, List.length_append]; omega) (by have := HBv.out.size; simp; omega) ?_; intro v3 w3 ho3 hg3))
                have HP := Lib.hid (row_put HBv.out HBp.out hg3)
                have Ho3 := Lib.hid ho3
                clear ho3 hg3
                go_wp2_with fail
                go_roundg (gko - 1)
                case measure => omega
                case rel => exact ⟨i + 1, M ++ [(y.1, E.take m ++ [z], y.2.2 + n)], by go_num, by omega, HM.out, Ho3.out, HP.out.1⟩
          · have hlo := lose_no (k := k) (t := t) (y := y) hnk hc
            rw [hlo, hlen] at HM
            generalize y.2.1.take (y.2.2 + n) = E at *
            by_cases h0 : n = 0
            · have g0 : decide (0 < n) = false := decide_eq_false (by omega)
              have g0i : decide ((0 : Int) < (n : Nat)) = false := decide_eq_false (by omega)
              clear hc hlo hk1 hcase hnk h0
              by_cases hkn : (n : Int) < k
              · have e1 : decide ((n : Int) < k) = true := decide_eq_true hkn
                have hq := HEQ.out hkn
                have e2 : decide ((y.2.2 : Int) + (n : Nat) < (y.2.1.length : Nat)) = false := decide_eq_false hq
                go_wp2_with (first | (at_builtin; refine wpList_append_gen eltF rfl (.tmp 65) (.tmp 72) rfl rfl w.heap.size _ (M) rfl (gen_own_below HBo.out ((Below.refl _ _).alloc (Nat.le_refl _) _)) _ [(y.1, E, y.2.2 + n)] (LAt.block (fV_len _) (by simp [fV]) (heap_alloc_new _ _)) rfl (by simp only [List.length_cons, List.length_nil, List.length_append]; omega) (by unfold maxLen; simp only [List.length_cons, List.length_nil, List.length_append]; omega) (by have := HBw.out.size; simp; omega) ?_; intro v3 w3 ho3 hg3))
                have HP := Lib.hid (row_put HBw.out HBo.out hg3)
                have Ho3 := Lib.hid ho3
                clear ho3 hg3
                go_wp2_with fail
                go_roundg (gko - 1)
                case measure => omega
                case rel => exact ⟨i + 1, M ++ [(y.1, E, y.2.2 + n)], by go_num, by omega, HM.out, Ho3.out, HP.out.1⟩
              · have e1 : decide ((n : Int) < k) = false := decide_eq_false hkn
                go_wp2_with (first | (at_builtin; refine wpList_append_gen eltF rfl (.tmp 65) (.tmp 72) rfl rfl w.heap.size _ (M) rfl (gen_own_below HBo.out ((Below.refl _ _).alloc (Nat.le_refl _) _)) _ [(y.1, E, y.2.2 + n)] (LAt.block (fV_len _) (by simp [fV]) (heap_alloc_new _ _)) rfl (by simp only [List.length_cons, List.length_nil, List.length_append]; omega) (by unfold maxLen; simp only [List.length_cons, List.length_nil, List.length_append]; omega) (by have := HBw.out.size; simp; omega) ?_; intro v3 w3 ho3 hg3))
                have HP := Lib.hid (row_put HBw.out HBo.out hg3)
                have Ho3 := Lib.hid ho3
                clear ho3 hg3
                go_wp2_with fail
                go_roundg (gko - 1)
                case measure => omega
                case rel => exact ⟨i + 1, M ++ [(y.1, E, y.2.2 + n)], by go_num, by omega, HM.out, Ho3.out, HP.out.1⟩
            · have g0 : decide (0 < n) = true := decide_eq_true (by omega)
              have g0i : decide ((0 : Int) < (n : Nat)) = true := decide_eq_true (by omega)
              have ht : t = false := by
                cases t
                · rfl
                · exact absurd ⟨by omega, rfl⟩ hc
              subst ht
              clear hc hlo hk1 hcase hnk h0
              by_cases hkn : (n : Int) < k
              · have e1 : decide ((n : Int) < k) = true := decide_eq_true hkn
                have hq := HEQ.out hkn
                have e2 : decide ((y.2.2 : Int) + (n : Nat) < (y.2.1.length : Nat)) = false := decide_eq_false hq
                go_wp2_with (first | (at_builtin; refine wpList_append_gen eltF rfl (.tmp 65) (.tmp 72) rfl rfl w.heap.size _ (M) rfl (gen_own_below HBo.out ((Below.refl _ _).alloc (Nat.le_refl _) _)) _ [(y.1, E, y.2.2 + n)] (LAt.block (fV_len _) (by simp [fV]) (heap_alloc_new _ _)) rfl (by simp only [List.length_cons, List.length_nil, List.length_append]; omega) (by unfold maxLen; simp only [List.length_cons, List.length_nil, List.length_append]; omega) (by have := HBw.out.size; simp; omega) ?_; intro v3 w3 ho3 hg3))
                have HP := Lib.hid (row_put HBw.out HBo.out hg3)
                have Ho3 := Lib.hid ho3
                clear ho3 hg3
                go_wp2_with fail
                go_roundg (gko - 1)
                case measure => omega
                case rel => exact ⟨i + 1, M ++ [(y.1, E, y.2.2 + n)], by go_num, by omega, HM.out, Ho3.out, HP.out.1⟩
              · have e1 : decide ((n : Int) < k) = false := decide_eq_false hkn
                go_wp2_with (first | (at_builtin; refine wpList_append_gen eltF rfl (.tmp 65) (.tmp 72) rfl rfl w.heap.size _ (M) rfl (gen_own_below HBo.out ((Below.refl _ _).alloc (Nat.le_refl _) _)) _ [(y.1, E, y.2.2 + n)] (LAt.block (fV_len _) (by simp [fV]) (heap_alloc_new _ _)) rfl (by simp only [List.length_cons, List.length_nil, List.length_append]; omega) (by unfold maxLen; simp only [List.length_cons, List.length_nil, List.length_append]; omega) (by have := HBw.out.size; simp; omega) ?_; intro v3 w3 ho3 hg3))
                have HP := Lib.hid (row_put HBw.out HBo.out hg3)
                have Ho3 := Lib.hid ho3
                clear ho3 hg3
                go_wp2_with fail
                go_roundg (gko - 1)
                case measure => omega
                case rel => exact ⟨i + 1, M ++ [(y.1, E, y.2.2 + n)], by go_num, by omega, HM.out, Ho3.out, HP.out.1⟩
    · have hltI : ¬ (i : Int) < (A.length : Nat) := by omega
      have hMA : M = A.map (loseA k t) := by rw [hM, List.take_of_length_le (by omega)]
      have hbr := (hB.block b hbl).trans Hb.out
      have f0 := block_free hbr 0
      have c0r : wr.cell? ⟨b, 0, none⟩ = some (.slice p A.length c) := block_cell hbr 0
      have D1 := Lib.hid (Rd.castA hMA <| (D.out.below hB).row _ (fok_own ho) (fun g hg => by have h1 := own_lt3 ho hg; exact ⟨by omega, gr_new D.out.k.size h1.1 h1.2⟩))
      obtain ⟨room, acts, down, left, keep, torn⟩ := h
      obtain ⟨pv, cv, rfl⟩ := (fok_own ho).shape
      have hz1 := block_set (i := 0) (u := .slice pv M.length cv) hbr
      have f2 := block_free hz1 2
      have c2r := block_cell hz1 2
      have hz2 := block_set (i := 2) (u := .bool true) hz1
      have f4 := block_free hz2 4
      have c4r := block_cell hz2 4
      have HO := Lib.hid ((D1.out.set (h' := ⟨room, acts, true, left, keep, torn⟩) 2 (.bool true) (fun v => rfl)).set (h' := ⟨room, acts, true, 0, keep, torn⟩) 4 (.int .i64 0) (fun v => rfl))
      clear hM hMA hB ho hbr hz1 hz2 D1 hdn
      go_wp2_with fail
      exact bodyPost_end (v := .tuple #[]) (by simp [results, Try.results37]) rfl ⟨rfl, HO.out⟩
end Go.Proofs.Ytfmcemedaehcoaa
