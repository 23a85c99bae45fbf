/- Walks: a text's digest. -/
import Derived.Test.YtbenegkhekofmaaDoorMd
import Derived.Lib.IndexBytes
import Derived.Lib.IndexBytes
import Derived.Lib.IndexBytes
import Derived.Lib.IndexBytes
import Derived.Lib.IndexBytes
namespace Go.Proofs.YtbenegkhekofmaaDoor
set_option linter.unusedVariables false
open Go.ChangeShapes Go.WideShapes Go.ChangeAt Go.RowKit

theorem end_any (s : ByteArray) (S : St) (base sb sz : Nat) (w : World) (hS : Arr w sb 41 8 .u32 S.list) (hok : S.ok) (hK : KeysAt w) (hb0 : 0 < base) (hbase : base ≤ sb) (hsz : s.size < 64) (hm2 : sz < 1152921504606846976) :
    Calls Tryd.prog 17 #[.pointer (some ⟨sb, 0, none⟩), .string s, .int .i64 sz] w fun e w' => e = .returned (.tuple #[]) ∧ Below base w w' ∧ Arr w' sb 41 8 .u32 (S.last (bytesL s) (sz * 8)).list := by
  by_cases h : s.size < 56
  · exact end_lo s S base sb sz (sz * 8) w hS hok hK hb0 hbase h rfl hm2
  · exact end_hi s S base sb sz (sz * 8) w hS hok hK hb0 hbase (by omega) hsz rfl hm2
theorem list_small {s : St} (h : s.ok) : Small 4294967296 s.list := fun j => by
  obtain ⟨h1, h2, h3, h4, h5, h6, h7, h8⟩ := h
  match j with
  | 0 => exact h1
  | 1 => exact h2
  | 2 => exact h3
  | 3 => exact h4
  | 4 => exact h5
  | 5 => exact h6
  | 6 => exact h7
  | 7 => exact h8
  | j + 8 => show 0 < 4294967296; decide
theorem St.last_ok (S : St) (r : List Nat) (m : Nat) : (S.last r m).ok := by
  unfold St.last; split <;> exact St.block_ok _ _
theorem shaS_ok (l : List Nat) : (shaS l).ok := St.last_ok _ _ _
theorem bytesL_cut (t : ByteArray) (k : Nat) : bytesL (t.extract k t.size) = (bytesL t).drop k := by
  rw [bytesL, bytesL, Lib.extract_to_end, List.map_drop]

theorem shaL_eq (L : List Nat) : shaL L = digL (shaS L).list := rfl
theorem shaS_eq (L : List Nat) : shaS L = (H0.run L (L.length / 64)).last (L.drop (64 * (L.length / 64))) (L.length * 8) := rfl
theorem of_start (w : World) (z24 c41 z42 : Array Value) (l : List Nat) (h24 : z24 = Array.replicate 32 (.int .u8 0)) (h41 : c41 = ints .u32 l) (hl : l.length = 8) (h42 : z42 = Array.replicate 64 (.int .u8 0)) :
    Arr (((w.alloc (.cells z24 24)).alloc (.cells c41 41)).alloc (.cells z42 42)) w.heap.size 24 32 .u8 [] ∧ Arr (((w.alloc (.cells z24 24)).alloc (.cells c41 41)).alloc (.cells z42 42)) (w.heap.size + 1) 41 8 .u32 l ∧ Arr (((w.alloc (.cells z24 24)).alloc (.cells c41 41)).alloc (.cells z42 42)) (w.heap.size + 1 + 1) 42 64 .u8 [] ∧ Below w.heap.size w (((w.alloc (.cells z24 24)).alloc (.cells c41 41)).alloc (.cells z42 42)) := by
  obtain ⟨w1, e1⟩ : ∃ w1, w1 = w.alloc (.cells z24 24) := ⟨_, rfl⟩
  obtain ⟨w2, e2⟩ : ∃ w2, w2 = w1.alloc (.cells c41 41) := ⟨_, rfl⟩
  obtain ⟨w3, e3⟩ : ∃ w3, w3 = w2.alloc (.cells z42 42) := ⟨_, rfl⟩
  rw [← e1, ← e2, ← e3]
  have s1 : w1.heap.size = w.heap.size + 1 := by rw [e1]; simp
  have s2 : w2.heap.size = w.heap.size + 1 + 1 := by rw [e2]; simp [s1]
  have b1 : Below w.heap.size w w1 := e1 ▸ (Below.refl _ _).alloc (Nat.le_refl _) _
  have b2 : Below w1.heap.size w1 w2 := e2 ▸ (Below.refl _ _).alloc (Nat.le_refl _) _
  have b3 : Below w2.heap.size w2 w3 := e3 ▸ (Below.refl _ _).alloc (Nat.le_refl _) _
  have a1 : Arr w1 w.heap.size 24 32 .u8 [] := e1 ▸ arr_zero (heap_alloc_new w _) h24
  have a2 : Arr w2 w1.heap.size 41 8 .u32 l := e2 ▸ arr_ints (h41 ▸ heap_alloc_new w1 _) hl
  have a3 : Arr w3 w2.heap.size 42 64 .u8 [] := e3 ▸ arr_zero (heap_alloc_new w2 _) h42
  exact ⟨(a1.below b2).below b3, s1 ▸ a2.below b3, s2 ▸ a3, (b1.trans (b2.mono (by omega))).trans (b3.mono (by omega))⟩

set_option maxRecDepth 100000 in
set_option maxHeartbeats 1000000 in
theorem of_any (s : ByteArray) (w : World) (hK : KeysAt w) (hs : s.size ≤ 140737488355328) :
    Calls Tryd.prog 9 #[.string s] w fun e w' => e = .returned (.agg (ints .u8 (shaL (bytesL s)))) ∧ Below w.heap.size w w' := by
  have hw0 := hK.1
  have Hlen := Lib.hid (bytesL_len s)
  have HK := Lib.hid hK
  clear hK
  obtain ⟨L, hL⟩ : ∃ L, L = bytesL s := ⟨_, rfl⟩
  rw [← hL] at Hlen ⊢
  have HL := Lib.hid hL
  clear hL
  have Hsha := Lib.hid (shaL_eq L)
  have HshaS := Lib.hid (shaS_eq L)
  have Hok := Lib.hid (shaS_ok L)
  go_enter Tryd.func9, Tryd.ntmps9
  go_wp2_with fail
  have HST := Lib.hid (fun z24 c41 z42 h1 h2 h3 => of_start w z24 c41 z42 H0.list h1 h2 rfl h3)
  go_loopg [5] (s.size / 64) (fun g rv wr => ∃ (i : Nat) (t : ByteArray) (l : List Nat), i + g = s.size / 64 ∧ rv = .string t ∧ bytesL t = L.drop (64 * i) ∧ t.size + 64 * i = s.size ∧ Arr wr w.heap.size 24 32 .u8 [] ∧ Arr wr (w.heap.size + 1) 41 8 .u32 (H0.run L i).list ∧ Arr wr (w.heap.size + 1 + 1) 42 64 .u8 l ∧ Small 256 l ∧ Below w.heap.size w wr)
  case atStart =>
    have h := HST.out _ _ _ rfl rfl rfl
    exact ⟨0, s, [], by omega, rfl, by rw [HL.out]; rfl, by omega, h.1, h.2.1, h.2.2.1, nil_small, h.2.2.2⟩
  case round =>
    clear HST
    obtain ⟨i, t, l, hig, rfl, htL, hts, hR, hS, hA, hls, hB⟩ := hrel
    by_cases hlt : 64 ≤ t.size
    · have hltI : (64 : Int) ≤ (t.size : Int) := by omega
      have hnl : ¬ (t.size : Int) < 64 := by omega
      have hsl := slice42all wr (w.heap.size + 1 + 1)
      obtain ⟨w1, hw1⟩ : ∃ w1, w1 = wr.setRow (w.heap.size + 1 + 1) (ints .u8 (over ((bytesL t).take 64) l)) := ⟨_, rfl⟩
      have hcp : ∀ ty, (Builtin.copy_ #[27, 9] ty #[.slice (some ⟨w.heap.size + 1 + 1, 0, none⟩) 64 64, .string t]).run Tryd.prog wr = .ok (.int .i64 64) w1 := fun ty => by
        have h := copy_arr wr (w.heap.size + 1 + 1) l t ty hA
        rw [Nat.min_eq_right (by omega), ← hw1] at h
        exact h
      have hA1 : Arr w1 (w.heap.size + 1 + 1) 42 64 .u8 (over ((bytesL t).take 64) l) := by
        rw [hw1]
        obtain ⟨cur, h1, h2, h3⟩ := hA
        exact arr_ints (setRow_heap _ _ _ _ _ _ h1) (over_len _ _)
      have hsz1 : w1.heap.size = wr.heap.size := by rw [hw1]; simp [World.setRow]
      have hb1 : Below w.heap.size w w1 := by rw [hw1]; exact below_setRow hB (by omega) _
      have hk1 : ∀ j, j ≠ w.heap.size + 1 + 1 → w1.heap[j]? = wr.heap[j]? := fun j hj => by rw [hw1]; exact setRow_other wr _ j _ (by omega)
      have hblk : (H0.run L i).block (over ((bytesL t).take 64) l) = H0.run L (i + 1) := by
        rw [St.run_succ]
        refine St.block_congr _ fun j hj => ?_
        have hl64 : ((bytesL t).take 64).length = 64 := by rw [List.length_take, bytesL_len]; omega
        rw [over_get _ _ _ hj, if_pos (by omega), slab, htL]
      have hS1 := hS.heap (hk1 _ (by omega))
      have hR1 := hR.heap (hk1 _ (by omega))
      have hK1 := HK.out.below hw0 hb1
      have hsm : Small 256 (over ((bytesL t).take 64) l) := over_small (fun j => by
        by_cases hj : j < 64
        · rw [List.getD_eq_getElem?_getD, List.getElem?_take_of_lt hj, ← List.getD_eq_getElem?_getD]; exact bytesL_small t j
        · rw [getD_out _ _ (by rw [List.length_take]; omega)]; decide) hls
      have Hsm := Lib.hid hsm
      have HT := Lib.hid (take_any _ (H0.run L i) (w.heap.size + 1) (w.heap.size + 1) (w.heap.size + 1 + 1) 42 w1 hA1 hS1 (by omega) hsm (St.run_ok H0_ok _ _) hK1 (by omega) (Nat.le_refl _))
      rw [hblk] at HT
      have Hcut := Lib.hid (show bytesL (t.extract 64 t.size) = L.drop (64 * (i + 1)) by rw [bytesL_cut, htL, List.drop_drop, show 64 * i + 64 = 64 * (i + 1) by omega])
      have Hcz := Lib.hid (show (t.extract 64 t.size).size + 64 * (i + 1) = s.size by rw [← bytesL_len, bytesL_cut, List.length_drop, bytesL_len]; omega)
      have HR1 := Lib.hid hR1
      have Hb1 := Lib.hid hb1
      have HA1 := Lib.hid hA1
      clear hsm hls hA1 hR1 hS1 hb1 hK1 hblk hk1 hS hR hA hB htL hw1
      go_wp2_with fail
      refine HT.out.mono ?_
      rintro e w2 ⟨rfl, hB2, hBut2, hS2⟩
      have hR2 := HR1.out.heap (hBut2 _ HR1.out.lt (by omega))
      have hA2 := HA1.out.heap (hBut2 _ HA1.out.lt (by omega))
      have hb2 : Below w.heap.size w w2 := Hb1.out.trans (hB2.mono (by omega))
      have HB2 := Lib.hid hb2
      have HR2 := Lib.hid hR2
      have HA2 := Lib.hid hA2
      have HS2 := Lib.hid hS2
      clear hb2 hR2 hA2 hS2 hB2 hBut2
      go_wp2_with fail
      go_roundg (gk - 1)
      case measure => omega
      case rel => exact ⟨i + 1, _, _, by omega, rfl, Hcut.out, Hcz.out, HR2.out, HS2.out, HA2.out, Hsm.out, HB2.out⟩
    · have hnl : ¬ (64 : Int) ≤ (t.size : Int) := by omega
      have hltI : (t.size : Int) < 64 := by omega
      have hiq : i = s.size / 64 := by omega
      have HE := Lib.hid (end_any t (H0.run L i) (w.heap.size + 1) (w.heap.size + 1) s.size wr hS (St.run_ok H0_ok _ _) (HK.out.below hw0 hB) (by omega) (Nat.le_refl _) (by omega) (by omega))
      have HF := Lib.hid (show shaS L = (H0.run L i).last (bytesL t) (s.size * 8) by rw [HshaS.out, htL, hiq, Hlen.out])
      rw [← HF.out] at HE
      have HR := Lib.hid hR
      have HB := Lib.hid hB
      clear HF hiq hR hS hA hls hB htL
      go_wp2_with fail
      refine HE.out.mono ?_
      rintro e w2 ⟨rfl, hB2, hS2⟩
      have hwh := Lib.hid (hS2.whole (list_len _))
      have HR2 := Lib.hid (HR.out.heap (hB2.block _ (by omega)))
      have HB2 := Lib.hid (HB.out.trans (hB2.mono (by omega)))
      have HD := Lib.hid (fun w3 => digest_any (shaS L).list w3 (list_len _) (list_small Hok.out))
      rw [← Hsha.out] at HD
      have Hz := Lib.hid (show (Tryd.prog.info? 41).map (·.size) = some (ints .u32 (shaS L).list).size by rw [ints_size, list_len]; kernel_rfl)
      have Hz24 := Lib.hid (show (Tryd.prog.info? 24).map (·.size) = some (ints .u8 (shaL L)).size by rw [ints_size, shaL_len]; kernel_rfl)
      have HDl := Lib.hid (shaL_len L)
      clear hB2 hS2 Hsha
      obtain ⟨D, hDe⟩ : ∃ D, D = shaL L := ⟨_, rfl⟩
      rw [← hDe] at HD Hz24 HDl
      have HDe := Lib.hid hDe
      clear hDe
      generalize (shaS L).list = X at *
      go_wp2_with (refine wpList_load_row rfl 41 _ rfl (w.heap.size + 1) rfl 41 (ints .u32 X) (0, 0) _ hwh.out Tryd.underlying41 rfl Hz.out ?_)
      refine (HD.out _).mono ?_
      rintro e w3 ⟨rfl, hB3⟩
      obtain ⟨old, ho1, ho2, _⟩ := HR2.out.below hB3
      have Ho1 := Lib.hid ho1
      have Ho3 := Lib.hid (show old.size = (ints .u8 D).size by rw [ints_size, HDl.out, ho2])
      have HB3 := Lib.hid (HB2.out.trans (hB3.mono HB2.out.size))
      clear hB3 ho1 ho2
      go_wp2_with (refine wpList_store_rowTo rfl 24 _ _ rfl rfl w.heap.size (ints .u8 D) rfl rfl 24 _ Ho1.out Hz24.out Ho3.out (ints_one _ _) ?_)
      refine bodyPost_ret (v := .agg (ints .u8 D)) (results_cell_row (fr := (0, 0)) rfl _ _ w.heap.size 24 _ _ rfl (setRow_heap _ _ _ _ _ _ Ho1.out) Tryd.underlying24 rfl Hz24.out) rfl ⟨by rw [HDe.out], below_setRow HB3.out (Nat.le_refl _) _⟩
end Go.Proofs.YtbenegkhekofmaaDoor
