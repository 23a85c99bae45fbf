/- Walks: the statement ObjectCommits. -/
import Derived.Test.YtdhaanaenklleaaDoorRa
namespace Go.Proofs.YtdhaanaenklleaaDoor
set_option linter.unusedVariables false
set_option linter.unusedSimpArgs false
open Go.ChangeShapes Go.WideShapes Go.ChangeAt Go.RowKit

set_option maxRecDepth 100000 in
set_option maxHeartbeats 20000000 in
theorem commits7_any (root : List UInt8) (L : List (List UInt8)) (note b : ByteArray) (pp : Option Addr) (ln pc : Nat) (w : World) (hM : MaxAt w)
    (hr : root.length = 32) (hln : ln = L.length) (hL : LAt 32 bytV w (.slice pp ln pc) L) (hn : note.size ≤ 140737488351232) (hb : b.size ≤ 140737488351232) :
    Calls Tryd.prog 4 #[cmV root (.slice pp ln pc) note, .string b] w (LawEnd w) := by
  have H32 := Lib.hid hr
  have HA := Lib.hid (fun w1 (h1 : Below w.heap.size w w1) => alive7_any w1 (hM.below h1))
  have HGR := Lib.hid (fun w1 => greatCommit_any root note pp ln pc w1 hr)
  have HRG := Lib.hid (fun w1 => refGoodCommit_any root note pp ln pc w1 hr)
  have HCG := Lib.hid (fun w1 => goodCommit_any root note pp ln pc w1 hr)
  have HPC0 := Lib.hid (fun w1 (h1 : Below w.heap.size w w1) (hn : note.size ≤ 1048576) (hl : ln ≤ 1048576) => putCommit_any root L note pp ln pc w1 hr hln (hL.below h1) hn hl)
  have HRC0 := Lib.hid (fun w1 (h1 : Below w.heap.size w w1) (hn : note.size ≤ 1048576) (hl : ln ≤ 1048576) => refCommit_any root L note pp ln pc w1 hr hln (hL.below h1) hn hl)
  have hgd : (decide (note.size ≤ 64) && decide (ln ≤ 2)) = goodC L note := by rw [hln]; rfl
  rw [hgd] at HRG HCG
  have hRi := cm_size (pv := .slice pp ln pc) (note := note) hr
  unfold cmV at HGR HRG HCG HPC0 HRC0 ⊢
  obtain ⟨R, hR⟩ : ∃ R, R = (cmL root (.slice pp ln pc) note).toArray := ⟨_, rfl⟩
  rw [← hR] at HGR HRG HCG HPC0 HRC0 hRi ⊢
  have HRi := Lib.hid hRi
  clear hM hr hln hL hRi hR hgd
  cases hgc0 : (decide (60 < ln) || decide (1024 < note.size)) with
  | true =>
    rw [hgc0] at HGR
    clear hgc0
    go_enter Tryd.func4, Tryd.ntmps4
    go_wp2_with fail
    refine (HA.out _ ((Below.refl _ _).alloc (Nat.le_refl _) _)).mono ?_
    rintro e w1 ⟨rfl, hB2⟩
    have HX := Lib.hid ((CellR.made w R).below hB2)
    clear hB2
    go_wp2_with (first | (refine wpList_load_at_g (by simp [Region.wanted, yielded, Act.put]) 40 (.tmp 2) rfl ⟨w.heap.size, 0, none⟩ rfl (.agg R) (load_box HX.out.at_ HRi.out) ?_))
    refine (HGR.out _).mono ?_
    rintro e w2 ⟨rfl, hB2⟩
    replace HX := Lib.hid (HX.out.below hB2)
    clear hB2
    go_wp2_with fail
    go_ret
    exact ⟨rfl, HX.out.b⟩
  | false =>
    rw [hgc0] at HGR
    rw [Bool.or_eq_false_iff] at hgc0
    have hl60 := of_decide_eq_false hgc0.1
    have hnn := of_decide_eq_false hgc0.2
    clear hgc0
    by_cases hbs : 4096 < b.size
    · have hbI : (4096 : Int) < (b.size : Int) := by omega
      go_enter Tryd.func4, Tryd.ntmps4
      go_wp2_with fail
      refine (HA.out _ ((Below.refl _ _).alloc (Nat.le_refl _) _)).mono ?_
      rintro e w1 ⟨rfl, hB2⟩
      have HX := Lib.hid ((CellR.made w R).below hB2)
      clear hB2
      go_wp2_with (first | (refine wpList_load_at_g (by simp [Region.wanted, yielded, Act.put]) 40 (.tmp 2) rfl ⟨w.heap.size, 0, none⟩ rfl (.agg R) (load_box HX.out.at_ HRi.out) ?_))
      refine (HGR.out _).mono ?_
      rintro e w2 ⟨rfl, hB2⟩
      replace HX := Lib.hid (HX.out.below hB2)
      clear hB2
      go_wp2_with fail
      go_ret
      exact ⟨rfl, HX.out.b⟩
    · have hbI : ¬ (4096 : Int) < (b.size : Int) := by omega
      have HPC := Lib.hid (fun w1 (h1 : Below w.heap.size w w1) => HPC0.out w1 h1 (by omega) (by omega))
      have HRC := Lib.hid (fun w1 (h1 : Below w.heap.size w w1) => HRC0.out w1 h1 (by omega) (by omega))
      have HGc := Lib.hid (fun w1 => getCommit_any b w1 (by omega))
      have HGr := Lib.hid (fun w1 => refGetCommit_any b w1 (by omega))
      cases hgd : goodC L note with
      | false =>
        have hpc : putC root L note = .tuple #[.string ⟨#[]⟩, .int .i64 1] := by unfold putC; rw [hgd]; rfl
        rw [hpc] at HPC
        rw [hgd] at HRG HCG
        clear hgd hpc
        cases hgc : getC b with
        | none =>
          obtain ⟨c0, hc0⟩ : ∃ c0, c0 = zeroC := ⟨_, rfl⟩
          have Hc32 := Lib.hid (show c0.1.length = 32 by rw [hc0]; decide)
          unfold CGetEnd cmV at HGc HGr
          rw [hgc] at HGc HGr
          simp only [Option.getD_none, ← hc0, Option.isSome_none, Bool.false_eq_true, if_false] at HGc HGr
          clear hgc hc0
          go_enter Tryd.func4, Tryd.ntmps4
          go_wp2_with fail
          refine (HA.out _ ((Below.refl _ _).alloc (Nat.le_refl _) _)).mono ?_
          rintro e w1 ⟨rfl, hB2⟩
          have HX := Lib.hid ((CellR.made w R).below hB2)
          clear hB2
          go_wp2_with (first | (refine wpList_load_at_g (by simp [Region.wanted, yielded, Act.put]) 40 (.tmp 2) rfl ⟨w.heap.size, 0, none⟩ rfl (.agg R) (load_box HX.out.at_ HRi.out) ?_))
          refine (HGR.out _).mono ?_
          rintro e w2 ⟨rfl, hB2⟩
          replace HX := Lib.hid (HX.out.below hB2)
          clear hB2
          go_wp2_with (first | (refine wpList_load_at_g (by simp [Region.wanted, yielded, Act.put]) 40 (.tmp 2) rfl ⟨w.heap.size, 0, none⟩ rfl (.agg R) (load_box HX.out.at_ HRi.out) ?_))
          refine (HPC.out _ HX.out.b).mono ?_
          rintro e w2 ⟨rfl, hB2⟩
          replace HX := Lib.hid (HX.out.below hB2)
          clear hB2
          go_wp2_with (first | (refine wpList_load_at_g (by simp [Region.wanted, yielded, Act.put]) 40 (.tmp 2) rfl ⟨w.heap.size, 0, none⟩ rfl (.agg R) (load_box HX.out.at_ HRi.out) ?_))
          refine (HRG.out _).mono ?_
          rintro e w2 ⟨rfl, hB2⟩
          replace HX := Lib.hid (HX.out.below hB2)
          clear hB2
          go_wp2_with (first | (refine wpList_load_at_g (by simp [Region.wanted, yielded, Act.put]) 40 (.tmp 2) rfl ⟨w.heap.size, 0, none⟩ rfl (.agg R) (load_box HX.out.at_ HRi.out) ?_))
          refine (HCG.out _).mono ?_
          rintro e w2 ⟨rfl, hB2⟩
          replace HX := Lib.hid (HX.out.below hB2)
          clear hB2
          go_wp2_with fail
          refine (HGc.out _).mono ?_
          rintro e w2 ⟨hB2, p2, n2, k2, rfl, hn2, hL2⟩
          replace HX := Lib.hid (HX.out.below hB2)
          have Hn2 := Lib.hid hn2
          have HL2 := Lib.hid hL2
          clear hB2 hn2 hL2
          go_wp2_with (first | (refine wpList_store_rowTo rfl 40 (.tmp 8) (.tmp 62) rfl rfl w2.heap.size (cmL c0.1 (.slice p2 n2 k2) c0.2.2).toArray rfl rfl 40 _ (heap_alloc_new w2 _) (cm_size Hc32.out) (by rw [cm_len34 Hc32.out]; rfl) (cm_one _ _ _ _ _) ?_; refine box_absL (boxL_made w2 _ 40 (cmL c0.1 (.slice p2 n2 k2) c0.2.2)) ?_; intro w2x hbx; replace HX := Lib.hid (HX.out.below hbx.b); have HB1 := Lib.hid hbx; clear hbx))
          refine (HGr.out _).mono ?_
          rintro e w3 ⟨hB2, p3, n3, k3, rfl, hn3, hL3⟩
          replace HX := Lib.hid (HX.out.below hB2)
          have HB1' := Lib.hid (HB1.out.below hB2)
          have Hn3 := Lib.hid hn3
          have HL3 := Lib.hid hL3
          clear hB2 hn3 hL3
          have HSC := Lib.hid (fun w5 (h2 : Below w2.heap.size w2 w5) (h3 : Below w3.heap.size w3 w5) => sameCommit_any c0.1 c0.1 c0.2.1 c0.2.1 c0.2.2 c0.2.2 p2 p3 n2 n3 k2 k3 w5 Hc32.out Hc32.out Hn2.out Hn3.out (HL2.out.below h2) (HL3.out.below h3))
          rw [decide_eq_true ⟨rfl, rfl, rfl⟩] at HSC
          go_wp2_with (first | (refine wpList_store_rowTo rfl 40 (.tmp 10) (.tmp 67) rfl rfl w3.heap.size (cmL c0.1 (.slice p3 n3 k3) c0.2.2).toArray rfl rfl 40 _ (heap_alloc_new w3 _) (cm_size Hc32.out) (by rw [cm_len34 Hc32.out]; rfl) (cm_one _ _ _ _ _) ?_; refine box_absL (boxL_made w3 _ 40 (cmL c0.1 (.slice p3 n3 k3) c0.2.2)) ?_; intro w3x hbx; replace HX := Lib.hid (HX.out.below hbx.b); have HB2 := Lib.hid hbx; have HB1x := Lib.hid (HB1'.out.below hbx.b); clear hbx) | (refine wpList_load_at_g (by simp [Region.wanted, yielded, Act.put]) 40 (.tmp 8) rfl ⟨w2.heap.size, 0, none⟩ rfl (.agg (cmL c0.1 (.slice p2 n2 k2) c0.2.2).toArray) (run_loadVar_mid (P := Tryd.prog) w3x w2.heap.size 0 40 (cmL c0.1 (.slice p2 n2 k2) c0.2.2) _ (fun j y hj => by rw [Nat.zero_add]; exact HB1x.out.r j y hj) Tryd.underlying40 rfl (by have := cm_size (pv := .slice p2 n2 k2) (note := c0.2.2) Hc32.out; rwa [List.size_toArray] at this)) ?_) | (refine wpList_load_at_g (by simp [Region.wanted, yielded, Act.put]) 40 (.tmp 10) rfl ⟨w3.heap.size, 0, none⟩ rfl (.agg (cmL c0.1 (.slice p3 n3 k3) c0.2.2).toArray) (run_loadVar_mid (P := Tryd.prog) w3x w3.heap.size 0 40 (cmL c0.1 (.slice p3 n3 k3) c0.2.2) _ (fun j y hj => by rw [Nat.zero_add]; exact HB2.out.r j y hj) Tryd.underlying40 rfl (by have := cm_size (pv := .slice p3 n3 k3) (note := c0.2.2) Hc32.out; rwa [List.size_toArray] at this)) ?_))
          refine (HSC.out _ HB1x.out.b HB2.out.b).mono ?_
          rintro e w5 ⟨rfl, hB2⟩
          replace HX := Lib.hid (HX.out.below hB2)
          clear hB2
          go_wp2_with fail
          go_ret
          exact ⟨rfl, HX.out.b⟩
        | some c0 =>
          have Hc32 := Lib.hid (getC_some hgc).2.2.1
          unfold CGetEnd cmV at HGc HGr
          rw [hgc] at HGc HGr
          simp only [Option.getD_some, Option.isSome_some, if_true] at HGc HGr
          clear hgc
          go_enter Tryd.func4, Tryd.ntmps4
          go_wp2_with fail
          refine (HA.out _ ((Below.refl _ _).alloc (Nat.le_refl _) _)).mono ?_
          rintro e w1 ⟨rfl, hB2⟩
          have HX := Lib.hid ((CellR.made w R).below hB2)
          clear hB2
          go_wp2_with (first | (refine wpList_load_at_g (by simp [Region.wanted, yielded, Act.put]) 40 (.tmp 2) rfl ⟨w.heap.size, 0, none⟩ rfl (.agg R) (load_box HX.out.at_ HRi.out) ?_))
          refine (HGR.out _).mono ?_
          rintro e w2 ⟨rfl, hB2⟩
          replace HX := Lib.hid (HX.out.below hB2)
          clear hB2
          go_wp2_with (first | (refine wpList_load_at_g (by simp [Region.wanted, yielded, Act.put]) 40 (.tmp 2) rfl ⟨w.heap.size, 0, none⟩ rfl (.agg R) (load_box HX.out.at_ HRi.out) ?_))
          refine (HPC.out _ HX.out.b).mono ?_
          rintro e w2 ⟨rfl, hB2⟩
          replace HX := Lib.hid (HX.out.below hB2)
          clear hB2
          go_wp2_with (first | (refine wpList_load_at_g (by simp [Region.wanted, yielded, Act.put]) 40 (.tmp 2) rfl ⟨w.heap.size, 0, none⟩ rfl (.agg R) (load_box HX.out.at_ HRi.out) ?_))
          refine (HRG.out _).mono ?_
          rintro e w2 ⟨rfl, hB2⟩
          replace HX := Lib.hid (HX.out.below hB2)
          clear hB2
          go_wp2_with (first | (refine wpList_load_at_g (by simp [Region.wanted, yielded, Act.put]) 40 (.tmp 2) rfl ⟨w.heap.size, 0, none⟩ rfl (.agg R) (load_box HX.out.at_ HRi.out) ?_))
          refine (HCG.out _).mono ?_
          rintro e w2 ⟨rfl, hB2⟩
          replace HX := Lib.hid (HX.out.below hB2)
          clear hB2
          go_wp2_with fail
          refine (HGc.out _).mono ?_
          rintro e w2 ⟨hB2, p2, n2, k2, rfl, hn2, hL2⟩
          replace HX := Lib.hid (HX.out.below hB2)
          have Hn2 := Lib.hid hn2
          have HL2 := Lib.hid hL2
          clear hB2 hn2 hL2
          go_wp2_with (first | (refine wpList_store_rowTo rfl 40 (.tmp 8) (.tmp 62) rfl rfl w2.heap.size (cmL c0.1 (.slice p2 n2 k2) c0.2.2).toArray rfl rfl 40 _ (heap_alloc_new w2 _) (cm_size Hc32.out) (by rw [cm_len34 Hc32.out]; rfl) (cm_one _ _ _ _ _) ?_; refine box_absL (boxL_made w2 _ 40 (cmL c0.1 (.slice p2 n2 k2) c0.2.2)) ?_; intro w2x hbx; replace HX := Lib.hid (HX.out.below hbx.b); have HB1 := Lib.hid hbx; clear hbx))
          refine (HGr.out _).mono ?_
          rintro e w3 ⟨hB2, p3, n3, k3, rfl, hn3, hL3⟩
          replace HX := Lib.hid (HX.out.below hB2)
          have HB1' := Lib.hid (HB1.out.below hB2)
          have Hn3 := Lib.hid hn3
          have HL3 := Lib.hid hL3
          clear hB2 hn3 hL3
          have HSC := Lib.hid (fun w5 (h2 : Below w2.heap.size w2 w5) (h3 : Below w3.heap.size w3 w5) => sameCommit_any c0.1 c0.1 c0.2.1 c0.2.1 c0.2.2 c0.2.2 p2 p3 n2 n3 k2 k3 w5 Hc32.out Hc32.out Hn2.out Hn3.out (HL2.out.below h2) (HL3.out.below h3))
          rw [decide_eq_true ⟨rfl, rfl, rfl⟩] at HSC
          go_wp2_with (first | (refine wpList_store_rowTo rfl 40 (.tmp 10) (.tmp 67) rfl rfl w3.heap.size (cmL c0.1 (.slice p3 n3 k3) c0.2.2).toArray rfl rfl 40 _ (heap_alloc_new w3 _) (cm_size Hc32.out) (by rw [cm_len34 Hc32.out]; rfl) (cm_one _ _ _ _ _) ?_; refine box_absL (boxL_made w3 _ 40 (cmL c0.1 (.slice p3 n3 k3) c0.2.2)) ?_; intro w3x hbx; replace HX := Lib.hid (HX.out.below hbx.b); have HB2 := Lib.hid hbx; have HB1x := Lib.hid (HB1'.out.below hbx.b); clear hbx) | (refine wpList_load_at_g (by simp [Region.wanted, yielded, Act.put]) 40 (.tmp 8) rfl ⟨w2.heap.size, 0, none⟩ rfl (.agg (cmL c0.1 (.slice p2 n2 k2) c0.2.2).toArray) (run_loadVar_mid (P := Tryd.prog) w3x w2.heap.size 0 40 (cmL c0.1 (.slice p2 n2 k2) c0.2.2) _ (fun j y hj => by rw [Nat.zero_add]; exact HB1x.out.r j y hj) Tryd.underlying40 rfl (by have := cm_size (pv := .slice p2 n2 k2) (note := c0.2.2) Hc32.out; rwa [List.size_toArray] at this)) ?_) | (refine wpList_load_at_g (by simp [Region.wanted, yielded, Act.put]) 40 (.tmp 10) rfl ⟨w3.heap.size, 0, none⟩ rfl (.agg (cmL c0.1 (.slice p3 n3 k3) c0.2.2).toArray) (run_loadVar_mid (P := Tryd.prog) w3x w3.heap.size 0 40 (cmL c0.1 (.slice p3 n3 k3) c0.2.2) _ (fun j y hj => by rw [Nat.zero_add]; exact HB2.out.r j y hj) Tryd.underlying40 rfl (by have := cm_size (pv := .slice p3 n3 k3) (note := c0.2.2) Hc32.out; rwa [List.size_toArray] at this)) ?_))
          refine (HSC.out _ HB1x.out.b HB2.out.b).mono ?_
          rintro e w5 ⟨rfl, hB2⟩
          replace HX := Lib.hid (HX.out.below hB2)
          clear hB2
          go_wp2_with fail
          go_ret
          exact ⟨rfl, HX.out.b⟩
      | true =>
        have hpc : putC root L note = .tuple #[.string (commitB root L note), .int .i64 0] := by unfold putC; rw [hgd]; rfl
        rw [hpc] at HPC
        rw [hgd] at HRG HCG
        have hTT : ((commitB root L note).toList == (commitB root L note).toList) = true := by simp
        generalize commitB root L note = CB at *
        clear hgd hpc
        cases hgc : getC b with
        | none =>
          obtain ⟨c0, hc0⟩ : ∃ c0, c0 = zeroC := ⟨_, rfl⟩
          have Hc32 := Lib.hid (show c0.1.length = 32 by rw [hc0]; decide)
          unfold CGetEnd cmV at HGc HGr
          rw [hgc] at HGc HGr
          simp only [Option.getD_none, ← hc0, Option.isSome_none, Bool.false_eq_true, if_false] at HGc HGr
          clear hgc hc0
          go_enter Tryd.func4, Tryd.ntmps4
          go_wp2_with fail
          refine (HA.out _ ((Below.refl _ _).alloc (Nat.le_refl _) _)).mono ?_
          rintro e w1 ⟨rfl, hB2⟩
          have HX := Lib.hid ((CellR.made w R).below hB2)
          clear hB2
          go_wp2_with (first | (refine wpList_load_at_g (by simp [Region.wanted, yielded, Act.put]) 40 (.tmp 2) rfl ⟨w.heap.size, 0, none⟩ rfl (.agg R) (load_box HX.out.at_ HRi.out) ?_))
          refine (HGR.out _).mono ?_
          rintro e w2 ⟨rfl, hB2⟩
          replace HX := Lib.hid (HX.out.below hB2)
          clear hB2
          go_wp2_with (first | (refine wpList_load_at_g (by simp [Region.wanted, yielded, Act.put]) 40 (.tmp 2) rfl ⟨w.heap.size, 0, none⟩ rfl (.agg R) (load_box HX.out.at_ HRi.out) ?_))
          refine (HPC.out _ HX.out.b).mono ?_
          rintro e w2 ⟨rfl, hB2⟩
          replace HX := Lib.hid (HX.out.below hB2)
          clear hB2
          go_wp2_with (first | (refine wpList_load_at_g (by simp [Region.wanted, yielded, Act.put]) 40 (.tmp 2) rfl ⟨w.heap.size, 0, none⟩ rfl (.agg R) (load_box HX.out.at_ HRi.out) ?_))
          refine (HRG.out _).mono ?_
          rintro e w2 ⟨rfl, hB2⟩
          replace HX := Lib.hid (HX.out.below hB2)
          clear hB2
          go_wp2_with (first | (refine wpList_load_at_g (by simp [Region.wanted, yielded, Act.put]) 40 (.tmp 2) rfl ⟨w.heap.size, 0, none⟩ rfl (.agg R) (load_box HX.out.at_ HRi.out) ?_))
          refine (HCG.out _).mono ?_
          rintro e w2 ⟨rfl, hB2⟩
          replace HX := Lib.hid (HX.out.below hB2)
          clear hB2
          go_wp2_with (first | (refine wpList_load_at_g (by simp [Region.wanted, yielded, Act.put]) 40 (.tmp 2) rfl ⟨w.heap.size, 0, none⟩ rfl (.agg R) (load_box HX.out.at_ HRi.out) ?_))
          refine (HRC.out _ HX.out.b).mono ?_
          rintro e w2 ⟨rfl, hB2⟩
          replace HX := Lib.hid (HX.out.below hB2)
          clear hB2
          go_wp2_with fail
          refine (HGc.out _).mono ?_
          rintro e w2 ⟨hB2, p2, n2, k2, rfl, hn2, hL2⟩
          replace HX := Lib.hid (HX.out.below hB2)
          have Hn2 := Lib.hid hn2
          have HL2 := Lib.hid hL2
          clear hB2 hn2 hL2
          go_wp2_with (first | (refine wpList_store_rowTo rfl 40 (.tmp 8) (.tmp 62) rfl rfl w2.heap.size (cmL c0.1 (.slice p2 n2 k2) c0.2.2).toArray rfl rfl 40 _ (heap_alloc_new w2 _) (cm_size Hc32.out) (by rw [cm_len34 Hc32.out]; rfl) (cm_one _ _ _ _ _) ?_; refine box_absL (boxL_made w2 _ 40 (cmL c0.1 (.slice p2 n2 k2) c0.2.2)) ?_; intro w2x hbx; replace HX := Lib.hid (HX.out.below hbx.b); have HB1 := Lib.hid hbx; clear hbx))
          refine (HGr.out _).mono ?_
          rintro e w3 ⟨hB2, p3, n3, k3, rfl, hn3, hL3⟩
          replace HX := Lib.hid (HX.out.below hB2)
          have HB1' := Lib.hid (HB1.out.below hB2)
          have Hn3 := Lib.hid hn3
          have HL3 := Lib.hid hL3
          clear hB2 hn3 hL3
          have HSC := Lib.hid (fun w5 (h2 : Below w2.heap.size w2 w5) (h3 : Below w3.heap.size w3 w5) => sameCommit_any c0.1 c0.1 c0.2.1 c0.2.1 c0.2.2 c0.2.2 p2 p3 n2 n3 k2 k3 w5 Hc32.out Hc32.out Hn2.out Hn3.out (HL2.out.below h2) (HL3.out.below h3))
          rw [decide_eq_true ⟨rfl, rfl, rfl⟩] at HSC
          go_wp2_with (first | (refine wpList_store_rowTo rfl 40 (.tmp 10) (.tmp 67) rfl rfl w3.heap.size (cmL c0.1 (.slice p3 n3 k3) c0.2.2).toArray rfl rfl 40 _ (heap_alloc_new w3 _) (cm_size Hc32.out) (by rw [cm_len34 Hc32.out]; rfl) (cm_one _ _ _ _ _) ?_; refine box_absL (boxL_made w3 _ 40 (cmL c0.1 (.slice p3 n3 k3) c0.2.2)) ?_; intro w3x hbx; replace HX := Lib.hid (HX.out.below hbx.b); have HB2 := Lib.hid hbx; have HB1x := Lib.hid (HB1'.out.below hbx.b); clear hbx) | (refine wpList_load_at_g (by simp [Region.wanted, yielded, Act.put]) 40 (.tmp 8) rfl ⟨w2.heap.size, 0, none⟩ rfl (.agg (cmL c0.1 (.slice p2 n2 k2) c0.2.2).toArray) (run_loadVar_mid (P := Tryd.prog) w3x w2.heap.size 0 40 (cmL c0.1 (.slice p2 n2 k2) c0.2.2) _ (fun j y hj => by rw [Nat.zero_add]; exact HB1x.out.r j y hj) Tryd.underlying40 rfl (by have := cm_size (pv := .slice p2 n2 k2) (note := c0.2.2) Hc32.out; rwa [List.size_toArray] at this)) ?_) | (refine wpList_load_at_g (by simp [Region.wanted, yielded, Act.put]) 40 (.tmp 10) rfl ⟨w3.heap.size, 0, none⟩ rfl (.agg (cmL c0.1 (.slice p3 n3 k3) c0.2.2).toArray) (run_loadVar_mid (P := Tryd.prog) w3x w3.heap.size 0 40 (cmL c0.1 (.slice p3 n3 k3) c0.2.2) _ (fun j y hj => by rw [Nat.zero_add]; exact HB2.out.r j y hj) Tryd.underlying40 rfl (by have := cm_size (pv := .slice p3 n3 k3) (note := c0.2.2) Hc32.out; rwa [List.size_toArray] at this)) ?_))
          refine (HSC.out _ HB1x.out.b HB2.out.b).mono ?_
          rintro e w5 ⟨rfl, hB2⟩
          replace HX := Lib.hid (HX.out.below hB2)
          clear hB2
          go_wp2_with fail
          go_ret
          exact ⟨rfl, HX.out.b⟩
        | some c0 =>
          have Hc32 := Lib.hid (getC_some hgc).2.2.1
          unfold CGetEnd cmV at HGc HGr
          rw [hgc] at HGc HGr
          simp only [Option.getD_some, Option.isSome_some, if_true] at HGc HGr
          clear hgc
          go_enter Tryd.func4, Tryd.ntmps4
          go_wp2_with fail
          refine (HA.out _ ((Below.refl _ _).alloc (Nat.le_refl _) _)).mono ?_
          rintro e w1 ⟨rfl, hB2⟩
          have HX := Lib.hid ((CellR.made w R).below hB2)
          clear hB2
          go_wp2_with (first | (refine wpList_load_at_g (by simp [Region.wanted, yielded, Act.put]) 40 (.tmp 2) rfl ⟨w.heap.size, 0, none⟩ rfl (.agg R) (load_box HX.out.at_ HRi.out) ?_))
          refine (HGR.out _).mono ?_
          rintro e w2 ⟨rfl, hB2⟩
          replace HX := Lib.hid (HX.out.below hB2)
          clear hB2
          go_wp2_with (first | (refine wpList_load_at_g (by simp [Region.wanted, yielded, Act.put]) 40 (.tmp 2) rfl ⟨w.heap.size, 0, none⟩ rfl (.agg R) (load_box HX.out.at_ HRi.out) ?_))
          refine (HPC.out _ HX.out.b).mono ?_
          rintro e w2 ⟨rfl, hB2⟩
          replace HX := Lib.hid (HX.out.below hB2)
          clear hB2
          go_wp2_with (first | (refine wpList_load_at_g (by simp [Region.wanted, yielded, Act.put]) 40 (.tmp 2) rfl ⟨w.heap.size, 0, none⟩ rfl (.agg R) (load_box HX.out.at_ HRi.out) ?_))
          refine (HRG.out _).mono ?_
          rintro e w2 ⟨rfl, hB2⟩
          replace HX := Lib.hid (HX.out.below hB2)
          clear hB2
          go_wp2_with (first | (refine wpList_load_at_g (by simp [Region.wanted, yielded, Act.put]) 40 (.tmp 2) rfl ⟨w.heap.size, 0, none⟩ rfl (.agg R) (load_box HX.out.at_ HRi.out) ?_))
          refine (HCG.out _).mono ?_
          rintro e w2 ⟨rfl, hB2⟩
          replace HX := Lib.hid (HX.out.below hB2)
          clear hB2
          go_wp2_with (first | (refine wpList_load_at_g (by simp [Region.wanted, yielded, Act.put]) 40 (.tmp 2) rfl ⟨w.heap.size, 0, none⟩ rfl (.agg R) (load_box HX.out.at_ HRi.out) ?_))
          refine (HRC.out _ HX.out.b).mono ?_
          rintro e w2 ⟨rfl, hB2⟩
          replace HX := Lib.hid (HX.out.below hB2)
          clear hB2
          go_wp2_with fail
          refine (HGc.out _).mono ?_
          rintro e w2 ⟨hB2, p2, n2, k2, rfl, hn2, hL2⟩
          replace HX := Lib.hid (HX.out.below hB2)
          have Hn2 := Lib.hid hn2
          have HL2 := Lib.hid hL2
          clear hB2 hn2 hL2
          go_wp2_with (first | (refine wpList_store_rowTo rfl 40 (.tmp 8) (.tmp 62) rfl rfl w2.heap.size (cmL c0.1 (.slice p2 n2 k2) c0.2.2).toArray rfl rfl 40 _ (heap_alloc_new w2 _) (cm_size Hc32.out) (by rw [cm_len34 Hc32.out]; rfl) (cm_one _ _ _ _ _) ?_; refine box_absL (boxL_made w2 _ 40 (cmL c0.1 (.slice p2 n2 k2) c0.2.2)) ?_; intro w2x hbx; replace HX := Lib.hid (HX.out.below hbx.b); have HB1 := Lib.hid hbx; clear hbx))
          refine (HGr.out _).mono ?_
          rintro e w3 ⟨hB2, p3, n3, k3, rfl, hn3, hL3⟩
          replace HX := Lib.hid (HX.out.below hB2)
          have HB1' := Lib.hid (HB1.out.below hB2)
          have Hn3 := Lib.hid hn3
          have HL3 := Lib.hid hL3
          clear hB2 hn3 hL3
          have HSC := Lib.hid (fun w5 (h2 : Below w2.heap.size w2 w5) (h3 : Below w3.heap.size w3 w5) => sameCommit_any c0.1 c0.1 c0.2.1 c0.2.1 c0.2.2 c0.2.2 p2 p3 n2 n3 k2 k3 w5 Hc32.out Hc32.out Hn2.out Hn3.out (HL2.out.below h2) (HL3.out.below h3))
          rw [decide_eq_true ⟨rfl, rfl, rfl⟩] at HSC
          go_wp2_with (first | (refine wpList_store_rowTo rfl 40 (.tmp 10) (.tmp 67) rfl rfl w3.heap.size (cmL c0.1 (.slice p3 n3 k3) c0.2.2).toArray rfl rfl 40 _ (heap_alloc_new w3 _) (cm_size Hc32.out) (by rw [cm_len34 Hc32.out]; rfl) (cm_one _ _ _ _ _) ?_; refine box_absL (boxL_made w3 _ 40 (cmL c0.1 (.slice p3 n3 k3) c0.2.2)) ?_; intro w3x hbx; replace HX := Lib.hid (HX.out.below hbx.b); have HB2 := Lib.hid hbx; have HB1x := Lib.hid (HB1'.out.below hbx.b); clear hbx) | (refine wpList_load_at_g (by simp [Region.wanted, yielded, Act.put]) 40 (.tmp 8) rfl ⟨w2.heap.size, 0, none⟩ rfl (.agg (cmL c0.1 (.slice p2 n2 k2) c0.2.2).toArray) (run_loadVar_mid (P := Tryd.prog) w3x w2.heap.size 0 40 (cmL c0.1 (.slice p2 n2 k2) c0.2.2) _ (fun j y hj => by rw [Nat.zero_add]; exact HB1x.out.r j y hj) Tryd.underlying40 rfl (by have := cm_size (pv := .slice p2 n2 k2) (note := c0.2.2) Hc32.out; rwa [List.size_toArray] at this)) ?_) | (refine wpList_load_at_g (by simp [Region.wanted, yielded, Act.put]) 40 (.tmp 10) rfl ⟨w3.heap.size, 0, none⟩ rfl (.agg (cmL c0.1 (.slice p3 n3 k3) c0.2.2).toArray) (run_loadVar_mid (P := Tryd.prog) w3x w3.heap.size 0 40 (cmL c0.1 (.slice p3 n3 k3) c0.2.2) _ (fun j y hj => by rw [Nat.zero_add]; exact HB2.out.r j y hj) Tryd.underlying40 rfl (by have := cm_size (pv := .slice p3 n3 k3) (note := c0.2.2) Hc32.out; rwa [List.size_toArray] at this)) ?_))
          refine (HSC.out _ HB1x.out.b HB2.out.b).mono ?_
          rintro e w5 ⟨rfl, hB2⟩
          replace HX := Lib.hid (HX.out.below hB2)
          clear hB2
          go_wp2_with fail
          go_ret
          exact ⟨rfl, HX.out.b⟩
theorem commits7_walk {w : World} {c : Array Value} {x : CmI} {b : ByteArray} (hM : MaxAt w) (hc : cmR w x (Value.agg c).cells.toList) (hb : b.size ≤ 140737488351232) :
    Calls Tryd.prog 4 #[.agg c, .string b] w (LawEnd w) := by
  obtain ⟨p, n, k, e, hn, hL, hr, hs⟩ := cm_cells hc
  have e2 : c = (cmL x.1 (.slice p n k) x.2.2.1).toArray := by rw [← e]; rfl
  subst e2
  exact commits7_any x.1 x.2.1 x.2.2.1 b p n k w hM hr hn hL hs hb
end Go.Proofs.YtdhaanaenklleaaDoor
