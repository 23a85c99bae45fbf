/- Walks: the document's digest of bytes. -/
import Derived.Test.YtbenegkhekofmaaDoorWl
import Derived.Test.YtbenegkhekofmaaDoorWk
namespace Go.Proofs.YtbenegkhekofmaaDoor
set_option linter.unusedVariables false
open Go.ChangeShapes Go.WideShapes Go.ChangeAt Go.RowKit

theorem wpQuiet_load_row {P : Program} {C : World → Prop} {ops : Array Oper} {rest : List Oper} {o : Oper} {a : Act} {Q : Act → Prop} (hgd : o.guard = none) (ty : TypeId) (x : Operand) (ho : o.op = .load ty x)
    (g : Nat) (hx : a.eval x = .pointer (some ⟨g, 0, none⟩)) (t : TypeId) (cs : Array Value) (fr : Nat × Nat) (d : TypeDesc) (hg : ∀ w, C w → w.heap[g]? = some (.cells cs t fr))
    (hu : P.underlying ty = some d) (hd : (match d with | .struct _ | .array _ _ => true | _ => false) = true) (hi : (P.info? ty).map (·.size) = some cs.size)
    (h : wpQuiet P ops C Q rest (a.put o.dst (.agg cs))) : wpQuiet P ops C Q (o :: rest) a := by
  refine Go.BigFrame.wpQuiet_want (by simp [Region.wanted, hgd]) fun K hK => ⟨.agg cs, fun w hw => ?_, hK _ h⟩
  unfold Oper.quietAt execOp
  simp only [ho, hx, Instr.loadAt, Instr.sureAddr, Sem.run_bind, Sem.run_pure, Result.andThen_ok, run_loadVar_row w g t ty cs fr d (hg w hw) hu hd hi]
  exact ⟨rfl, rfl⟩

theorem sl27 (g n cap lo : Nat) (h : lo + 64 ≤ n) (hc : n ≤ cap) (z1 z2 : Int) (e1 : z1 = (lo : Int)) (e2 : z2 = (lo : Int) + 64) (w1 : World) :
    (Instr.slice 27 (.slice (some ⟨g, 0, none⟩) n cap) (some (.int .i64 z1)) (some (.int .i64 z2)) none).run Tryd.prog w1 = .ok (.slice (some ⟨g, lo, none⟩) 64 (cap - lo)) w1 := by
  subst e1; subst e2
  have he : Tryd.prog.elem 27 = 5 := by kernel_rfl
  have hz : (sizeOf 5).run Tryd.prog w1 = .ok 1 w1 := by simp [go_sem]
  rw [run_slice_lh w1 27 _ _ _ (by rw [he]; exact Tryd.underlying27) .i64 .i64 _ _ (by omega) (by omega) (by omega), he, hz]
  have a1 : ((lo : Int) + 64).toNat = lo + 64 := by omega
  simp only [Result.andThen_ok, sliced, Int.toNat_natCast, a1]
  rw [if_neg (by omega), show lo + 64 - lo = 64 by omega]
  simp only [Option.map, Addr.add, Nat.mul_one]
  split <;> simp_all
theorem pad_small {l : List Nat} (h : Small 256 l) : Small 256 (pad l) := fun j => by
  by_cases hj : j < (pad l).length
  · rw [pad_get l j hj]
    split
    · exact h j
    · split
      · decide
      · split
        · decide
        · exact Nat.mod_lt _ (by decide)
  · rw [getD_out _ _ (by omega)]; decide
theorem slab_small {l : List Nat} (h : Small 256 l) (i : Nat) : Small 256 (slab l i) := fun j => by
  by_cases hj : j < 64
  · rw [slab_get _ _ _ hj]; exact h _
  · rw [getD_out _ _ (by simp [slab]; omega)]; decide
theorem pad_64 (l : List Nat) : 64 * ((pad l).length / 64) = (pad l).length := by
  have h := pad_len l
  unfold padN at h
  omega
theorem dof_start (w : World) (z23 c40 : Array Value) (l : List Nat) (h23 : z23 = Array.replicate 32 (.int .u8 0)) (h40 : c40 = ints .u32 l) (hl : l.length = 8) :
    Arr ((w.alloc (.cells z23 23)).alloc (.cells c40 40)) w.heap.size 23 32 .u8 [] ∧ Arr ((w.alloc (.cells z23 23)).alloc (.cells c40 40)) (w.heap.size + 1) 40 8 .u32 l ∧ Below w.heap.size w ((w.alloc (.cells z23 23)).alloc (.cells c40 40)) := by
  obtain ⟨w1, e1⟩ : ∃ w1, w1 = w.alloc (.cells z23 23) := ⟨_, rfl⟩
  obtain ⟨w2, e2⟩ : ∃ w2, w2 = w1.alloc (.cells c40 40) := ⟨_, rfl⟩
  rw [← e1, ← e2]
  have s1 : w1.heap.size = w.heap.size + 1 := by rw [e1]; simp
  have b1 : Below w.heap.size w w1 := e1 ▸ (Below.refl _ _).alloc (Nat.le_refl _) _
  have b2 : Below w1.heap.size w1 w2 := e2 ▸ (Below.refl _ _).alloc (Nat.le_refl _) _
  have a1 : Arr w1 w.heap.size 23 32 .u8 [] := e1 ▸ arr_zero (heap_alloc_new w _) h23
  have a2 : Arr w2 w1.heap.size 40 8 .u32 l := e2 ▸ arr_ints (h40 ▸ heap_alloc_new w1 _) hl
  exact ⟨a1.below b2, s1 ▸ a2, b1.trans (b2.mono (by omega))⟩

theorem OwnB.row {base : Nat} {w : World} {v : Value} {l : List Nat} (h : OwnB base w v l) (hl : 0 < l.length) : ∃ g cap, v = .slice (some ⟨g, 0, none⟩) l.length cap ∧ l.length ≤ cap ∧ base ≤ g ∧ g < w.heap.size ∧ ∀ j, j < l.length → w.cell? ⟨g, j, none⟩ = some (.int .u8 ((l.getD j 0 : Nat) : Int)) := by
  rcases h.2 with ⟨hv, hn⟩ | ⟨g, cap, cur, hv, hb, hg, hcap, hmax, hsz, htake⟩
  · omega
  · refine ⟨g, cap, hv, hcap, hb, lt_of_block hg, fun i hi => ?_⟩
    rw [block_cell hg]
    have e : (cur.toList.take (l.length * 1))[i]? = (cellsN l)[i]? := by rw [htake]
    rw [List.getElem?_take_of_lt (by omega), cellsN_get _ _ hi] at e
    simpa using e

set_option maxRecDepth 100000 in
set_option maxHeartbeats 1000000 in
theorem dof_any (v : Value) (l : List Nat) (w : World) (hv : BytsN w v l) (hs : Small 256 l) (hl : l.length ≤ 70368744177664) :
    Calls Tryd.prog 10 #[v] w fun e w' => e = .returned (.agg (ints .u8 (shaL l))) ∧ Below w.heap.size w w' := by
  obtain ⟨p, cap, rfl⟩ := hv.shape
  have Hv := Lib.hid (fun w1 (hB : Below w.heap.size w w1) => padded_any _ l w1 (hv.below hB) hl)
  have HST := Lib.hid (fun z23 c40 h1 h2 => dof_start w z23 c40 H0.list h1 h2 rfl)
  have hplen := pad_len l
  have hp64 := pad_64 l
  have hpz : 0 < (pad l).length ∧ (pad l).length ≤ 140737488355328 := by
    have : padN l.length < 64 := by unfold padN; omega
    omega
  have Hps := Lib.hid (pad_small hs)
  have Hsha := Lib.hid (show shaL l = digL (H0.run (pad l) ((pad l).length / 64)).list by rw [pad_run]; exact shaL_eq l)
  have Hk64 := Lib.hid (show (Tryd.prog.info? 48).map (·.size) = some (ints .u32 K64).size by rw [ints_size]; kernel_rfl)
  have HK0 := Lib.hid (show (ints .u32 K64).size = 64 by rw [ints_size]; rfl)
  obtain ⟨D, hD⟩ : ∃ D, D = shaL l := ⟨_, rfl⟩
  rw [← hD] at Hsha ⊢
  obtain ⟨pl, hpl⟩ : ∃ pl, pl = pad l := ⟨_, rfl⟩
  rw [← hpl] at Hv Hps Hsha hp64 hpz
  obtain ⟨n, hn⟩ : ∃ n, n = pl.length := ⟨_, rfl⟩
  rw [← hn] at Hsha hp64 hpz
  have Hn := Lib.hid hn
  have HD := Lib.hid hD
  have Hpl := Lib.hid hpl
  obtain ⟨q, hq⟩ : ∃ q, q = n / 64 := ⟨_, rfl⟩
  rw [← hq] at hp64 Hsha
  obtain ⟨hn0, hnm⟩ := hpz
  have Hp64 := Lib.hid hp64
  clear hv hplen hpl hD hn hq hp64
  go_enter Tryd.func10, Tryd.ntmps10
  go_wp2_with fail
  have hst := HST.out _ _ rfl rfl
  refine (Hv.out _ hst.2.2).mono ?_
  rintro e w2 ⟨v2, rfl, hO2, hB2⟩
  have hb2 := hst.2.2.trans (hB2.mono hst.2.2.size)
  obtain ⟨g, cap2, rfl, hcap2, hgb, hg2, hgo⟩ := hO2.row (by rw [← Hn.out]; exact hn0)
  rw [← Hn.out] at hcap2 hgo ⊢
  have hgb2 : w.heap.size + 1 + 1 ≤ g := by simpa using hgb
  have hr2 := hst.1.below hB2
  have hs2 := hst.2.1.below hB2
  have HR2 := Lib.hid hr2
  have HS2 := Lib.hid hs2
  have HB2 := Lib.hid hb2
  have HG2 := Lib.hid hgo
  clear hst HST hO2 hr2 hs2 hb2 hB2 hgo Hv
  go_wp2_with fail
  refine (numbers_any _).mono ?_
  rintro e w3 ⟨rfl, hB3⟩
  have hkc := heap_alloc_new w3 (.cells (ints .u32 K64) 48)
  obtain ⟨w4, hw4⟩ : ∃ w4, w4 = w3.alloc (.cells (ints .u32 K64) 48) := ⟨_, rfl⟩
  rw [← hw4] at hkc
  have hB34 : Below w3.heap.size w3 w4 := hw4 ▸ (Below.refl _ _).alloc (Nat.le_refl _) _
  have hB24 : Below w2.heap.size w2 w4 := hB3.trans (hB34.mono hB3.size)
  have hkz : w3.heap.size < w4.heap.size := by rw [hw4]; simp
  have hz23 := hB3.size
  have hgw3 : g < w3.heap.size := by omega
  have hz02 := HB2.out.size
  have hsb := HS2.out.lt
  have HKb := Lib.hid hkc
  have HB := Lib.hid (HB2.out.trans (hB24.mono hz02))
  have HR := Lib.hid (HR2.out.below hB24)
  have HS := Lib.hid (HS2.out.below hB24)
  have HG := Lib.hid (fun j hj => (hB24.cell (p := ⟨g, j, none⟩) hg2).trans (HG2.out j hj))
  have HW4 := Lib.hid hw4
  clear hkc hw4 hB34 hB24 hB3 HR2 HS2 HB2 HG2
  go_wp2_with (refine wpList_store_rowTo rfl 48 _ _ rfl rfl w3.heap.size (ints .u32 K64) rfl rfl 48 _ (heap_alloc_new w3 _) Hk64.out HK0.out.symm (ints_one _ _) ?_; rw [World.setRow_alloc_new, ← HW4.out])
  clear HW4
  go_loopg [6] q (fun gg iv wr => ∃ i : Nat, i + gg = q ∧ iv = .int .i64 ((64 * i : Nat) : Int) ∧ Arr wr w.heap.size 23 32 .u8 [] ∧ Arr wr (w.heap.size + 1) 40 8 .u32 (H0.run pl i).list ∧ wr.heap[w3.heap.size]? = some (.cells (ints .u32 K64) 48 (0, 0)) ∧ (∀ j, j < n → wr.cell? ⟨g, j, none⟩ = some (.int .u8 ((pl.getD j 0 : Nat) : Int))) ∧ Below w.heap.size w wr ∧ w3.heap.size < wr.heap.size)
  case atStart => exact ⟨0, by omega, rfl, HR.out, HS.out, HKb.out, HG.out, HB.out, hkz⟩
  case round =>
    obtain ⟨i, hig, rfl, hR, hS, hK, hG, hB, hkw⟩ := hrel
    have hn64 := Hp64.out
    by_cases hlt : i < q
    · have hltI : ((64 * i : Nat) : Int) < (n : Int) := by omega
      have hltJ : 64 * (i : Int) < (n : Int) := by omega
      have hltN : 64 * i < n := by omega
      have hsl : ∀ w1 : World, (Instr.slice 27 (.slice (some ⟨g, 0, none⟩) n cap2) (some (.int .i64 (64 * (i : Int)))) (some (.int .i64 (64 * (i : Int) + 64))) none).run Tryd.prog w1 = .ok (.slice (some ⟨g, 64 * i, none⟩) 64 (cap2 - 64 * i)) w1 :=
        sl27 g n cap2 (64 * i) (by omega) hcap2 _ _ (by omega) (by omega)
      have hgr : g < wr.heap.size := by omega
      have hSw := hS.whole (list_len _)
      have hsbr := hS.lt
      have HCS := Lib.hid (fun w1 (h1 : Below wr.heap.size wr w1) => (h1.block _ hsbr).trans hSw)
      have HCK := Lib.hid (fun w1 (h1 : Below wr.heap.size wr w1) => (h1.block _ hkw).trans hK)
      have HNX := Lib.hid (fun w1 (h1 : Below wr.heap.size wr w1) => (next_any (slab pl i) (H0.run pl i) g (64 * i) (cap2 - 64 * i) w1 (fun j hj => (h1.cell (p := ⟨g, 64 * i + j, none⟩) hgr).trans (by rw [slab_get _ _ _ hj]; exact hG _ (by omega))) (Nat.lt_of_lt_of_le hgr h1.size) (slab_small Hps.out i) (St.run_ok H0_ok _ _)).mono (fun e w2 hh => (⟨hh.1, h1.trans (hh.2.mono h1.size)⟩ : e = .returned (.agg (ints .u32 ((H0.run pl i).block (slab pl i)).list)) ∧ Below wr.heap.size wr w2)))
      rw [← St.run_succ] at HNX
      have Hz40 := Lib.hid (show (Tryd.prog.info? 40).map (·.size) = some (ints .u32 (H0.run pl i).list).size by rw [ints_size, list_len]; kernel_rfl)
      have Hz40' := Lib.hid (show (Tryd.prog.info? 40).map (·.size) = some (ints .u32 (H0.run pl (i + 1)).list).size by rw [ints_size, list_len]; kernel_rfl)
      have Heq := Lib.hid (show (ints .u32 (H0.run pl i).list).size = (ints .u32 (H0.run pl (i + 1)).list).size by rw [ints_size, list_len, ints_size, list_len])
      have Hl1 := Lib.hid (list_len (H0.run pl (i + 1)))
      have HR := Lib.hid hR
      have HK := Lib.hid hK
      have HG := Lib.hid hG
      have HB := Lib.hid hB
      clear hR hS hSw hK hG hB hn64
      obtain ⟨X1, hX1⟩ : ∃ X1, X1 = (H0.run pl (i + 1)).list := ⟨_, rfl⟩
      rw [← hX1] at HNX Hz40' Heq Hl1
      have HX1 := Lib.hid hX1
      clear hX1
      generalize (H0.run pl i).list = X0 at *
      go_wp2_with fail
      refine wp_region_class_tail (Below wr.heap.size wr) 8 (by kernel_rfl) (by kernel_rfl) (Below.refl _ _).drew ?_
      simp only [List.take_succ_cons, List.take_zero, List.drop_succ_cons, List.drop_zero]
      refine wpQuiet_load_row rfl 40 _ rfl (w.heap.size + 1) rfl 40 (ints .u32 X0) (0, 0) _ HCS.out Tryd.underlying40 rfl Hz40.out ?_
      simp only [Act.put, List.setIfInBounds_toArray, List.set_cons_succ, List.set_cons_zero]
      repeat (go_big_quiet_step (first | (intro _; rfl)))
      refine wpQuiet_load_row rfl 48 _ rfl w3.heap.size rfl 48 (ints .u32 K64) (0, 0) _ HCK.out Tryd.underlying48 rfl Hk64.out ?_
      simp only [Act.put, List.setIfInBounds_toArray, List.set_cons_succ, List.set_cons_zero]
      repeat (go_big_quiet_step (first | (intro hq; exact HNX.out _ hq)))
      refine wpQuiet_nil ?_
      intro wq hBq
      have Hq := Lib.hid hBq
      have hqs := Lib.hid (HCS.out _ hBq)
      have hqz := hBq.size
      clear hBq
      go_wp2_with (refine wpList_store_rowTo rfl 40 _ _ rfl rfl (w.heap.size + 1) (ints .u32 X1) rfl rfl 40 _ hqs.out Hz40'.out Heq.out (ints_one _ _) ?_)
      go_roundg (gk - 1)
      case measure => omega
      case rel =>
        refine ⟨i + 1, by omega, by go_num, (HR.out.below Hq.out).heap (setRow_other wq _ _ _ (by omega)), (by rw [← HX1.out]; exact arr_ints (setRow_heap _ _ _ _ _ _ hqs.out) Hl1.out), ?_, ?_, below_setRow (HB.out.trans (Hq.out.mono HB.out.size)) (by omega) _, by simp; omega⟩
        · rw [setRow_other wq _ _ _ (by omega)]; exact (Hq.out.block _ hkw).trans HK.out
        · intro j hj
          rw [cell_setRow_other wq _ _ _ (by show g ≠ _; omega)]
          exact (Hq.out.cell (p := ⟨g, j, none⟩) hgr).trans (HG.out j hj)
    · obtain rfl : i = q := by omega
      have hltI : ¬ ((64 * i : Nat) : Int) < (n : Int) := by omega
      have hltJ : ¬ 64 * (i : Int) < (n : Int) := by omega
      have hltN : ¬ 64 * i < n := by omega
      have hok := St.run_ok H0_ok pl i
      have HHs := Lib.hid (list_small hok)
      have HHl := Lib.hid (list_len (H0.run pl i))
      have Hz40 := Lib.hid (show (Tryd.prog.info? 40).map (·.size) = some (ints .u32 (H0.run pl i).list).size by rw [ints_size, list_len]; kernel_rfl)
      have Hz23 := Lib.hid (show (Tryd.prog.info? 23).map (·.size) = some (ints .u8 D).size by rw [ints_size, HD.out, shaL_len]; kernel_rfl)
      have Hdl := Lib.hid (show D.length = 32 by rw [HD.out, shaL_len])
      have Hde := Lib.hid (show dpre (H0.run pl i).list 32 = D by rw [Hsha.out]; rfl)
      have hSw := Lib.hid (hS.whole (list_len _))
      have hsbr := hS.lt
      have HR := Lib.hid hR
      have HB := Lib.hid hB
      clear hok hS hR hB hK hG hn64
      generalize (H0.run pl i).list = H at *
      have hSw2 := Lib.hid ((heap_alloc_old wr (.cells #[.int .u8 0, .int .u8 0, .int .u8 0, .int .u8 0, .int .u8 0, .int .u8 0, .int .u8 0, .int .u8 0, .int .u8 0, .int .u8 0, .int .u8 0, .int .u8 0, .int .u8 0, .int .u8 0, .int .u8 0, .int .u8 0, .int .u8 0, .int .u8 0, .int .u8 0, .int .u8 0, .int .u8 0, .int .u8 0, .int .u8 0, .int .u8 0, .int .u8 0, .int .u8 0, .int .u8 0, .int .u8 0, .int .u8 0, .int .u8 0, .int .u8 0, .int .u8 0] 23) hsbr).trans hSw.out)
      have HD0 := Lib.hid (fun z hz => (arr_zero (heap_alloc_new wr (.cells z 23)) hz : Arr (wr.alloc (.cells z 23)) wr.heap.size 23 32 .u8 []))
      have HR0 := Lib.hid (fun o => HR.out.below ((Below.refl _ _).alloc (Nat.le_refl _) o))
      have HB0 := Lib.hid (fun o => HB.out.alloc HB.out.size o)
      go_wp2_with (refine wpList_load_row rfl 40 _ rfl (w.heap.size + 1) rfl 40 (ints .u32 H) (0, 0) _ hSw2.out Tryd.underlying40 rfl Hz40.out ?_)
      have hdb : w.heap.size < wr.heap.size := by omega
      obtain ⟨db, hdbe⟩ : ∃ db, db = wr.heap.size := ⟨_, rfl⟩
      rw [← hdbe] at hdb HD0 ⊢
      have HDB := Lib.hid hdbe
      clear hdbe
      go_loopg [30] 8 (fun gg iv wr => ∃ i : Nat, i + gg = 8 ∧ iv = .int .i64 i ∧ Arr wr w.heap.size 23 32 .u8 [] ∧ Arr wr db 23 32 .u8 (dpre H (4 * i)) ∧ Below w.heap.size w wr)
      case atStart => exact ⟨0, by omega, rfl, HR0.out _, HD0.out _ rfl, HB0.out _⟩
      case round =>
        obtain ⟨i, hig, rfl, hR, hD, hB⟩ := hrel
        by_cases hlt : i < 8
        · have hltI : (i : Int) < 8 := by omega
          have hix := index40 H i HHl.out hlt wr
          have hx := HHs.out i
          have Hb0 := Lib.hid (dbyte0 H i)
          have Hb1 := Lib.hid (dbyte1 H i)
          have Hb2 := Lib.hid (dbyte2 H i)
          have Hb3 := Lib.hid (dbyte3 H i)
          obtain ⟨x, hxe⟩ : ∃ x, H.getD i 0 = x := ⟨_, rfl⟩
          rw [hxe] at hix hx Hb0 Hb1 Hb2 Hb3
          obtain ⟨gko, rfl⟩ : ∃ g, g = gk := ⟨gk, rfl⟩
          have HR := Lib.hid hR
          have HD := Lib.hid hD
          have HB := Lib.hid hB
          clear hR hD hB
          go_wp2_with fail
          go_loopg [10] 4 (fun g jv wr => ∃ j : Nat, j + g = 4 ∧ jv = .int .i64 j ∧ Arr wr w.heap.size 23 32 .u8 [] ∧ Arr wr db 23 32 .u8 (dpre H (4 * i + j)) ∧ Below w.heap.size w wr)
          case atStart => exact ⟨0, by omega, rfl, HR.out, HD.out, HB.out⟩
          case round =>
          obtain ⟨j, hjg, rfl, hR, hD, hB⟩ := hrel
          have hj : j = 0 ∨ j = 1 ∨ j = 2 ∨ j = 3 ∨ j = 4 := by omega
          rcases hj with rfl | rfl | rfl | rfl | rfl
          · have c1 := hD.cell (4 * i + 0) (by omega)
            have f1 := hD.free (4 * i + 0)
            have Hn := Lib.hid (fun v => (by have h := hD.snoc (by rw [dpre_len]; omega) v; rw [dpre_len] at h; exact h : Arr (wr.setCell ⟨db, 4 * i + 0, none⟩ (.int .u8 ((v : Nat) : Int))) db 23 32 .u8 (dpre H (4 * i + 0) ++ [v])))
            have HR2 := Lib.hid (fun v => hR.other ⟨db, 4 * i + 0, none⟩ v (by show w.heap.size ≠ db; omega))
            clear hD hR
            simp only [Nat.add_zero] at c1 f1 Hn HR2
            go_wp2_with fail
            go_roundg (gk - 1)
            case measure => omega
            case rel => exact ⟨0 + 1, by omega, by go_num, HR2.out _, by have e : (x : Int) / 16777216 = ((dbyte H (4 * i + 0) : Nat) : Int) := (by rw [Hb0.out]; omega); rw [dpre_succ, e]; exact Hn.out _, hB.setCell (by show w.heap.size ≤ db; omega) _⟩
          · have c1 := hD.cell (4 * i + 1) (by omega)
            have f1 := hD.free (4 * i + 1)
            have Hn := Lib.hid (fun v => (by have h := hD.snoc (by rw [dpre_len]; omega) v; rw [dpre_len] at h; exact h : Arr (wr.setCell ⟨db, 4 * i + 1, none⟩ (.int .u8 ((v : Nat) : Int))) db 23 32 .u8 (dpre H (4 * i + 1) ++ [v])))
            have HR2 := Lib.hid (fun v => hR.other ⟨db, 4 * i + 1, none⟩ v (by show w.heap.size ≠ db; omega))
            clear hD hR
            go_wp2_with fail
            go_roundg (gk - 1)
            case measure => omega
            case rel => exact ⟨1 + 1, by omega, by go_num, HR2.out _, by have e : (x : Int) / 65536 % 256 = ((dbyte H (4 * i + 1) : Nat) : Int) := (by rw [Hb1.out]; omega); rw [dpre_succ, e]; exact Hn.out _, hB.setCell (by show w.heap.size ≤ db; omega) _⟩
          · have c1 := hD.cell (4 * i + 2) (by omega)
            have f1 := hD.free (4 * i + 2)
            have Hn := Lib.hid (fun v => (by have h := hD.snoc (by rw [dpre_len]; omega) v; rw [dpre_len] at h; exact h : Arr (wr.setCell ⟨db, 4 * i + 2, none⟩ (.int .u8 ((v : Nat) : Int))) db 23 32 .u8 (dpre H (4 * i + 2) ++ [v])))
            have HR2 := Lib.hid (fun v => hR.other ⟨db, 4 * i + 2, none⟩ v (by show w.heap.size ≠ db; omega))
            clear hD hR
            go_wp2_with fail
            go_roundg (gk - 1)
            case measure => omega
            case rel => exact ⟨2 + 1, by omega, by go_num, HR2.out _, by have e : (x : Int) / 256 % 256 = ((dbyte H (4 * i + 2) : Nat) : Int) := (by rw [Hb2.out]; omega); rw [dpre_succ, e]; exact Hn.out _, hB.setCell (by show w.heap.size ≤ db; omega) _⟩
          · have c1 := hD.cell (4 * i + 3) (by omega)
            have f1 := hD.free (4 * i + 3)
            have Hn := Lib.hid (fun v => (by have h := hD.snoc (by rw [dpre_len]; omega) v; rw [dpre_len] at h; exact h : Arr (wr.setCell ⟨db, 4 * i + 3, none⟩ (.int .u8 ((v : Nat) : Int))) db 23 32 .u8 (dpre H (4 * i + 3) ++ [v])))
            have HR2 := Lib.hid (fun v => hR.other ⟨db, 4 * i + 3, none⟩ v (by show w.heap.size ≠ db; omega))
            clear hD hR
            go_wp2_with fail
            go_roundg (gk - 1)
            case measure => omega
            case rel => exact ⟨3 + 1, by omega, by go_num, HR2.out _, by have e : (x : Int) % 256 = ((dbyte H (4 * i + 3) : Nat) : Int) := (by rw [Hb3.out]; omega); rw [dpre_succ, e]; exact Hn.out _, hB.setCell (by show w.heap.size ≤ db; omega) _⟩
          · go_wp2_with fail
            go_roundg (gko - 1)
            case measure => omega
            case rel => exact ⟨i + 1, by omega, by go_num, hR, hD, hB⟩
        · have hnl : ¬ (i : Int) < 8 := by omega
          obtain rfl : i = 8 := by omega
          have hwh := hD.whole (by rw [dpre_len])
          obtain ⟨old, ho1, ho2, _⟩ := hR
          have hwh2 : wr.heap[db]? = some (.cells (ints .u8 D) 23 (0, 0)) := by rw [hwh]; rw [show 4 * 8 = 32 by rfl, Hde.out]
          have Hwh := Lib.hid hwh2
          clear hwh2
          have Ho1 := Lib.hid ho1
          have Ho3 := Lib.hid (show old.size = (ints .u8 D).size by rw [ints_size, Hdl.out, ho2])
          have HB := Lib.hid hB
          clear hB hwh ho1 ho2 hD
          go_wp2_with (first
            | (refine wpList_load_row rfl 23 _ rfl db rfl 23 (ints .u8 D) (0, 0) _ Hwh.out Tryd.underlying23 rfl Hz23.out ?_)
            | (refine wpList_store_rowTo rfl 23 _ _ rfl rfl w.heap.size (ints .u8 D) rfl rfl 23 _ Ho1.out Hz23.out Ho3.out (ints_one _ _) ?_))
          refine bodyPost_ret (v := .agg (ints .u8 D)) (results_cell_row (fr := (0, 0)) rfl _ _ w.heap.size 23 _ _ rfl (setRow_heap _ _ _ _ _ _ Ho1.out) Tryd.underlying23 rfl Hz23.out) rfl ⟨rfl, below_setRow HB.out (Nat.le_refl _) _⟩
end Go.Proofs.YtbenegkhekofmaaDoor
