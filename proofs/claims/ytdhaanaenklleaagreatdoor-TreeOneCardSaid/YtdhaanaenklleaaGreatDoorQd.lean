/- The document's Build, of files that can be built; The document's Twice; The document's Clash; Plain: what is joined is split, and the other way round; Plain: a tree's bytes, read; An entry is put together of its parts; Walks: a tree's bytes, read by the code; Walks: a tree's bytes, read by the document; A region that draws its order: each operation by what it yields: no order is gone through; Walks: a commit's bytes, read by the code; What the walk of the statement ObjectBack leans on; Walks: the statement ObjectBack; The walk of the statement ObjectBack, of cells; Where no two unlike things have one name, unlike files have unlike trees; Files held against each other by value; a literal of two lists. -/
import Derived.Test.YtdhaanaenklleaaGreatDoorXZf
import Derived.Test.YtdhaanaenklleaaGreatDoorXSJo
import Derived.Test.YtdhaanaenklleaaGreatDoorQb
import Derived.Test.YtdhaanaenklleaaGreatDoorXN3
import Derived.Laws.Tables
import Derived.Great.BuildSlice
import Derived.Laws.BitsLemmas
import Derived.Test.YtdhaanaenklleaaGreatDoorXN6
import Derived.BigQuiet
import Derived.Below
import Derived.DeepKeys
namespace Go.Proofs.YtdhaanaenklleaaGreatDoor
set_option linter.unusedVariables false
set_option linter.unusedSimpArgs false
open Go.ChangeShapes Go.WideShapes Go.ChangeAt Go.RowKit

theorem filt_nil {l : List Fil} (h : ∀ x ∈ l, goodB x.1 = true) : filt nilB l = l := by
  unfold filt
  exact List.filter_eq_self.2 (fun x hx => by rw [under_empty nilB x.1 rfl]; exact good_some (h x hx))
theorem why_apart {a : List Fil} (h : whyF a = 0) : Apart a := by
  refine (whyOk_iff a).1 ?_
  unfold whyF at h
  cases hk : whyOk a with
  | true => rfl
  | false =>
    rw [hk] at h
    split at h
    · cases h
    · simp at h
def RBEnd (T : Nat → Prop) (b : Nat) (L A : List Obj8) (a : List Fil) (w : World) (e : Ending) (w' : World) : Prop :=
  ∃ l' : List Fil, l'.Perm a ∧ SortedF l' ∧ Apart l' ∧ e = .returned (.tuple #[.agg (bytV (tid (treeB (bldE 80 nilB l')))).toArray, .int .i64 0]) ∧ ∃ (T2 : Nat → Prop) (L2 A2 : List Obj8), (∀ q, T2 q → T q ∨ w.heap.size ≤ q) ∧ RSt T2 b L2 A2 w' ∧ Inn L A l' (bldT 80 nilB l') L2 A2 ∧ Kp T w w'
set_option maxRecDepth 100000 in
set_option maxHeartbeats 6000000 in
theorem refBuild_any {T : Nat → Prop} {b : Nat} {L A : List Obj8} {w : World} (h : RSt T b L A w) (v : Value) (a : List Fil) (hv : Rows w 2 filR v a) (hn : a.length ≤ 60) (hW : whyF a = 0) (hz : ∀ x ∈ a, x.2.1.size ≤ 4096) (hcL : L.length + 34000 ≤ 65536) (hcA : A.length + 34000 ≤ 65536) :
    Calls Tryz.prog 27 #[.pointer (some ⟨b, 0, none⟩), v] w (RBEnd T b L A a w) := by
  have hT := h.lt
  have hB0 := (Below.refl w.heap.size w).alloc (Nat.le_refl _) (.cells #[.int .u8 0, .int .u8 0, .int .u8 0, .int .u8 0, .int .u8 0, .int .u8 0, .int .u8 0, .int .u8 0, .int .u8 0, .int .u8 0, .int .u8 0, .int .u8 0, .int .u8 0, .int .u8 0, .int .u8 0, .int .u8 0, .int .u8 0, .int .u8 0, .int .u8 0, .int .u8 0, .int .u8 0, .int .u8 0, .int .u8 0, .int .u8 0, .int .u8 0, .int .u8 0, .int .u8 0, .int .u8 0, .int .u8 0, .int .u8 0, .int .u8 0, .int .u8 0] 32)
  have hb0 : (w.alloc (.cells #[.int .u8 0, .int .u8 0, .int .u8 0, .int .u8 0, .int .u8 0, .int .u8 0, .int .u8 0, .int .u8 0, .int .u8 0, .int .u8 0, .int .u8 0, .int .u8 0, .int .u8 0, .int .u8 0, .int .u8 0, .int .u8 0, .int .u8 0, .int .u8 0, .int .u8 0, .int .u8 0, .int .u8 0, .int .u8 0, .int .u8 0, .int .u8 0, .int .u8 0, .int .u8 0, .int .u8 0, .int .u8 0, .int .u8 0, .int .u8 0, .int .u8 0, .int .u8 0] 32)).heap.size = w.heap.size + 1 := by simp
  have HR := Lib.hid (Res37.made w #[.int .u8 0, .int .u8 0, .int .u8 0, .int .u8 0, .int .u8 0, .int .u8 0, .int .u8 0, .int .u8 0, .int .u8 0, .int .u8 0, .int .u8 0, .int .u8 0, .int .u8 0, .int .u8 0, .int .u8 0, .int .u8 0, .int .u8 0, .int .u8 0, .int .u8 0, .int .u8 0, .int .u8 0, .int .u8 0, .int .u8 0, .int .u8 0, .int .u8 0, .int .u8 0, .int .u8 0, .int .u8 0, .int .u8 0, .int .u8 0, .int .u8 0, .int .u8 0] rfl)
  have HT := Lib.hid hT
  have HH := Lib.hid (h.below hB0)
  have HKp0 := Lib.hid (Kp.of_below (T := T) hB0)
  have hgood : ∀ x ∈ a, goodB x.1 = true := (why_apart hW).1
  have hps : ∀ x ∈ a, x.1.size ≤ 1073741824 := fun x hx => by have := good_size (hgood x hx); omega
  have HW1 := Lib.hid (why_any v a (w.alloc (.cells #[.int .u8 0, .int .u8 0, .int .u8 0, .int .u8 0, .int .u8 0, .int .u8 0, .int .u8 0, .int .u8 0, .int .u8 0, .int .u8 0, .int .u8 0, .int .u8 0, .int .u8 0, .int .u8 0, .int .u8 0, .int .u8 0, .int .u8 0, .int .u8 0, .int .u8 0, .int .u8 0, .int .u8 0, .int .u8 0, .int .u8 0, .int .u8 0, .int .u8 0, .int .u8 0, .int .u8 0, .int .u8 0, .int .u8 0, .int .u8 0, .int .u8 0, .int .u8 0] 32)) (hv.below hB0) hps (by omega))
  rw [hW] at HW1
  have HS := Lib.hid (fun w2 (hB : Below (w.alloc (.cells #[.int .u8 0, .int .u8 0, .int .u8 0, .int .u8 0, .int .u8 0, .int .u8 0, .int .u8 0, .int .u8 0, .int .u8 0, .int .u8 0, .int .u8 0, .int .u8 0, .int .u8 0, .int .u8 0, .int .u8 0, .int .u8 0, .int .u8 0, .int .u8 0, .int .u8 0, .int .u8 0, .int .u8 0, .int .u8 0, .int .u8 0, .int .u8 0, .int .u8 0, .int .u8 0, .int .u8 0, .int .u8 0, .int .u8 0, .int .u8 0, .int .u8 0, .int .u8 0] 32)).heap.size (w.alloc (.cells #[.int .u8 0, .int .u8 0, .int .u8 0, .int .u8 0, .int .u8 0, .int .u8 0, .int .u8 0, .int .u8 0, .int .u8 0, .int .u8 0, .int .u8 0, .int .u8 0, .int .u8 0, .int .u8 0, .int .u8 0, .int .u8 0, .int .u8 0, .int .u8 0, .int .u8 0, .int .u8 0, .int .u8 0, .int .u8 0, .int .u8 0, .int .u8 0, .int .u8 0, .int .u8 0, .int .u8 0, .int .u8 0, .int .u8 0, .int .u8 0, .int .u8 0, .int .u8 0] 32)) w2) => sorted15_any v a w2 (LAt.ofRows (by decide) filR_eq ((hv.below hB0).below hB)) hn hps)
  have Hap := Lib.hid (why_apart hW)
  have Hz := Lib.hid hz
  have Hb0 := Lib.hid hb0
  have HcL := Lib.hid hcL
  have HcA := Lib.hid hcA
  clear h hT hv hgood hps hz hW hB0 hb0 hcL hcA
  go_enter Tryz.func27, Tryz.ntmps27
  go_wp2_with fail
  generalize w.alloc (.cells #[.int .u8 0, .int .u8 0, .int .u8 0, .int .u8 0, .int .u8 0, .int .u8 0, .int .u8 0, .int .u8 0, .int .u8 0, .int .u8 0, .int .u8 0, .int .u8 0, .int .u8 0, .int .u8 0, .int .u8 0, .int .u8 0, .int .u8 0, .int .u8 0, .int .u8 0, .int .u8 0, .int .u8 0, .int .u8 0, .int .u8 0, .int .u8 0, .int .u8 0, .int .u8 0, .int .u8 0, .int .u8 0, .int .u8 0, .int .u8 0, .int .u8 0, .int .u8 0] 32) = w1 at *
  refine HW1.out.mono ?_
  rintro e w2 ⟨rfl, hB2⟩
  have HB2 := Lib.hid hB2
  have HS2 := Lib.hid (HS.out w2 hB2)
  clear hB2 HS HW1
  go_wp2_with fail
  refine HS2.out.mono ?_
  rintro e w3 ⟨vo, l', rfl, hperm, hsort, hown, hB3⟩
  have Hperm := Lib.hid hperm
  have Hsort := Lib.hid hsort
  have Hapl := Lib.hid (Hap.out.perm hperm.symm)
  have HB3 := Lib.hid (HB2.out.trans (hB3.mono HB2.out.size))
  have hll : l'.length ≤ 60 := by rw [hperm.length_eq]; exact hn
  have hft := filt_nil Hapl.out.1
  have HBl := Lib.hid (below52_any 80 nilB l' vo (HH.out.below HB3.out) (LatK.own (base := w2.heap.size) (fun q hq => by have := HT.out q hq; have := HB2.out.size; have := Hb0.out; omega) hown) Hsort.out Hapl.out (by rw [hft, nilB_split]; simp only [List.length_nil]; omega) hll (by decide) (by rw [nilB_split]; decide) (fun x hx => Hz.out x (Hperm.out.mem_iff.1 hx)) (by rw [nilB_split]; simp only [List.length_nil]; have := HcL.out; omega) (by rw [nilB_split]; simp only [List.length_nil]; have := HcA.out; omega))
  rw [hft] at HBl
  have HBl2 : Hid (Calls Tryz.prog 52 #[.pointer (some ⟨b, 0, none⟩), .string ⟨#[]⟩, vo] w3 (BlwEnd T b L A 80 nilB l' w3)) := HBl
  have HR3 := Lib.hid (HR.out.below HB3.out)
  clear hperm hsort hown hB3 HBl hft HS2
  go_wp2_with fail
  refine HBl2.out.mono ?_
  rintro e w6 ⟨rfl, T2, L2, A2, hT2, hR2, hI2, hK2⟩
  have HT2 := Lib.hid hT2
  have HRS := Lib.hid hR2
  have HI2 := Lib.hid hI2
  have HK2 := Lib.hid hK2
  obtain ⟨cs, hcs5, hcz⟩ := HR3.out.at_
  have hcs := (hK2.block _ (lt_of_block hcs5) (fun hq => by have := HT.out _ hq; omega)).trans hcs5
  have HCs := Lib.hid hcs
  obtain ⟨idv, hidv⟩ : ∃ y, y = tid (treeB (bldE 80 nilB l')) := ⟨_, rfl⟩
  rw [← hidv]
  have Hidv := Lib.hid hidv
  have Hil := Lib.hid (show idv.length = 32 by rw [hidv]; exact tid_len _)
  have Hz2 := Lib.hid (id_size Hil.out)
  have Hone := Lib.hid (id_one idv)
  have Hs32 := Lib.hid (show (bytV idv).toArray.size = 32 by rw [List.size_toArray, bytV_len, Hil.out])
  clear hT2 hR2 hI2 hK2 hcs5 hcs hidv HBl2
  go_wp2_with (first | (refine wpList_store_rowTo rfl 32 (.tmp 4) (.tmp 16) rfl rfl w.heap.size (bytV idv).toArray rfl rfl 32 cs HCs.out Hz2.out (by rw [hcz, Hs32.out]) Hone.out ?_))
  refine rid0 rfl (setRow_heap w6 w.heap.size cs (bytV idv).toArray 32 (0, 0) HCs.out) Hz2.out rfl rfl rfl ⟨l', Hperm.out, Hsort.out, Hapl.out, by rw [Hidv.out]; rfl, T2, L2, A2, ?_, HRS.out.setRow ?_ _, HI2.out, ?_⟩
  · intro q hq
    rcases HT2.out q hq with h9 | h9
    · exact .inl h9
    · right; have := HB3.out.size; have := Hb0.out; omega
  · intro q hq e
    rcases HT2.out q hq with h9 | h9
    · have := HT.out q h9; omega
    · have := HB3.out.size; have := Hb0.out; omega
  · exact Kp.setRow (HKp0.out.trans ((Kp.of_below HB3.out).trans HK2.out)) (Nat.le_refl _)
end Go.Proofs.YtdhaanaenklleaaGreatDoor
namespace Go.Proofs.YtdhaanaenklleaaGreatDoor
set_option linter.unusedVariables false
set_option linter.unusedSimpArgs false
open Go.ChangeShapes Go.WideShapes Go.ChangeAt Go.RowKit

def okP (x y : Obj8) : Prop := x.1 = y.1 → x.2.1 = y.2.1 → x.2.2.1 = y.2.2.1
/-- No two unlike things of one kind and name. -/
def NoTw (A : List Obj8) : Prop := ∀ x ∈ A, ∀ y ∈ A, okP x y
def TwEnd (A : List Obj8) (w : World) (e : Ending) (w' : World) : Prop := ∃ r : Bool, e = .returned (.bool r) ∧ (r = false → NoTw A) ∧ Below w.heap.size w w'
theorem NoTw.snoc {A : List Obj8} {x : Obj8} (h : NoTw A) (k : ∀ y ∈ A, okP x y) : NoTw (A ++ [x]) := fun p hp q hq => by
  rcases List.mem_append.1 hp with hp | hp
  · rcases List.mem_append.1 hq with hq | hq
    · exact h p hp q hq
    · rw [List.mem_singleton.1 hq]
      exact fun e1 e2 => (k p hp e1.symm e2.symm).symm
  · rw [List.mem_singleton.1 hp]
    rcases List.mem_append.1 hq with hq | hq
    · exact k q hq
    · rw [List.mem_singleton.1 hq]; exact fun _ _ => rfl
theorem ok_next {A : List Obj8} {x : Obj8} {j : Nat} (hj : j < A.length) (h : ∀ y ∈ A.take j, okP x y) (k : okP x A[j]) : ∀ y ∈ A.take (j + 1), okP x y := fun y hy => by
  rw [List.take_succ_eq_append_getElem hj] at hy
  rcases List.mem_append.1 hy with hy | hy
  · exact h y hy
  · rw [List.mem_singleton.1 hy]; exact k
theorem mid_last {k s : ByteArray} {l : List UInt8} (h : l.length = 32) : (Value.string k :: (bytV l ++ [.string s]))[33]? = some (.string s) := by
  rw [List.getElem?_cons_succ, List.getElem?_append_right (by rw [bytV_len, h]; exact Nat.le_refl _), bytV_len, h]; rfl
theorem mid_range {w x : World} {B : Nat} {k s : ByteArray} {l : List UInt8} (h : BoxL w B (Value.string k :: (bytV l ++ [.string s])) x) : x.rangeAt B 1 (bytV l) := fun j y hy => h.r (1 + j) y (by
  rw [Nat.add_comm 1 j, List.getElem?_cons_succ, List.getElem?_append_left (List.getElem?_eq_some_iff.1 hy).1]; exact hy)
set_option maxRecDepth 100000 in
set_option maxHeartbeats 12000000 in
theorem twice33_any {T : Nat → Prop} {b : Nat} {L A : List Obj8} {w : World} (h : RSt T b L A w) (hA : A.length ≤ 65536) :
    Calls Tryz.prog 33 #[.pointer (some ⟨b, 0, none⟩)] w (TwEnd A w) := by
  obtain ⟨-, ⟨-, hok⟩, lv, av, hg, -, hav, -, -, -, -⟩ := h
  obtain ⟨p, c, hve⟩ := own_slice2 hav
  obtain ⟨len, hlen⟩ : ∃ len, len = A.length := ⟨_, rfl⟩
  rw [← hlen] at hve
  subst hve
  have Hlen := Lib.hid hlen
  have k1 : w.cell? ⟨b, 1, none⟩ = some (.slice p len c) := block_cell hg 1
  have hbw : b < w.heap.size := lt_of_block hg
  have hlat := LAt.own (e := 96) (fun o ho => obV_len (hok o ho)) hav
  have HLat := Lib.hid hlat
  have Hok := Lib.hid hok
  have hlc : len ≤ c := by
    rcases hlat.2 with ⟨_, _, e, hl⟩ | ⟨_, _, _, e, _, hc, _⟩
    · injection e with e1 e2 e3; omega
    · injection e with e1 e2 e3; omega
  have hi0 : (Tryz.prog.info? 96).map (·.size) = some 34 := by kernel_rfl
  have Hi0 := Lib.hid hi0
  clear hg hav hlat hlen hok hi0
  go_enter Tryz.func33, Tryz.ntmps33
  go_wp2_with fail
  go_loopg [12] len (fun g iv wr => ∃ i : Nat, i + g = len ∧ iv = .int .i64 i ∧ NoTw (A.take i) ∧ Below w.heap.size w wr)
  case atStart => exact ⟨0, by omega, rfl, fun x hx => by simp at hx, Below.refl _ _⟩
  case round =>
    obtain ⟨i, hig, rfl, hno, hB⟩ := hrel
    have Hno := Lib.hid hno
    have HB := Lib.hid hB
    have Hig := Lib.hid hig
    clear hno hB
    by_cases hlt : i < len
    · have hltI : (i : Int) < (len : Int) := by omega
      have hiL : i < A.length := by have := Hlen.out; omega
      obtain ⟨g1, o1, rfl, hg1, -, hlm, hrange⟩ := lat_at HLat.out (by omega)
      have HRange := Lib.hid hrange
      obtain ⟨x, hx⟩ : ∃ x, x = A[i] := ⟨_, rfl⟩
      have hrg := hrange i hiL
      rw [← hx] at hrg
      have Hrg := Lib.hid (range_below hg1 hrg HB.out)
      have Hx := Lib.hid hx
      have hxl : x.2.1.length = 32 := by rw [hx]; exact Hok.out _ (List.getElem_mem hiL)
      have hl34 := obV_len hxl
      have Hone1 := Lib.hid (one_row (obV_one x))
      have Hi1 := Lib.hid (show (Tryz.prog.info? 96).map (·.size) = some (obV x).length by rw [Hi0.out, hl34])
      have Hi2 := Lib.hid (show (Tryz.prog.info? 96).map (·.size) = some ((obV x).toArray).size by rw [Hi0.out, List.size_toArray, hl34])
      have Hsz2 := Lib.hid (show 34 = ((obV x).toArray).size by rw [List.size_toArray, hl34])
      have Hbx := Lib.hid (fun old => boxL_made wr old 96 (obV x))
      have Hxl := Lib.hid hxl
      have Htk := Lib.hid (show A.take (i + 1) = A.take i ++ [x] by rw [hx]; exact List.take_succ_eq_append_getElem hiL)
      clear hrange hrg hx hxl hl34
      go_upto_region 4 with (first | (refine wpList_load_mid rfl 96 (.tmp 15) rfl g1 (o1 + i * 34) rfl (obV x) _ Hrg.out Tryz.underlying96 rfl Hi1.out ?_) | (refine wpList_store_rowTo rfl 96 (.tmp 4) (.tmp 16) rfl rfl wr.heap.size (obV x).toArray rfl rfl 96 _ (heap_alloc_new wr _) Hi2.out (by rw [← Hsz2.out]; rfl) Hone1.out ?_))
      refine box_abs (Hbx.out _) ?_
      intro w8 hbx8
      obtain ⟨bx, hbx⟩ : ∃ q, q = wr.heap.size := ⟨_, rfl⟩
      rw [← hbx] at hbx8 ⊢
      have HBx := Lib.hid hbx8
      have HB8 := Lib.hid (HB.out.trans (hbx8.b.mono HB.out.size))
      have k1' := (HB8.out.cell (p := ⟨b, 1, none⟩) hbw).trans k1
      clear hbx8 hbx Hbx Hrg Hone1 Hi1 Hi2 Hsz2
      have hrunT : ∀ w1, (Instr.slice 50 (.slice (some ⟨g1, o1, none⟩) len c) none (some (.int .i64 i)) none).run Tryz.prog w1 = .ok (.slice (some ⟨g1, o1, none⟩) i c) w1 := fun w1 => by
        have hz : (sizeOf 96).run Tryz.prog w1 = .ok 34 w1 := by
          obtain ⟨i0, z, hi, hz0, hz1, _⟩ := eltO.inf
          simp [sizeOf, typeInfo, hi, hz1]
        rw [run_slice_h w1 50 _ _ _ (by rw [eltO.el]; exact eltO.tu) .i64 i (by omega) (by omega), eltO.el, hz]
        simp only [Result.andThen_ok, sliced, Int.toNat_natCast, Nat.zero_mul, Nat.sub_zero]
        have : (if c = 0 then some (⟨g1, o1, none⟩ : Addr) else (some (⟨g1, o1, none⟩ : Addr)).map fun x => x.add 0) = some ⟨g1, o1, none⟩ := by
          split
          · rfl
          · simp [gen_addr_zero]
        rw [this]
      refine wp_region_lit ?_
      refine wp_move rfl (.tmp 0) rfl (.pointer (some ⟨b, 0, none⟩)) rfl ?_
      simp only [Act.put, List.setIfInBounds_toArray, List.set_cons_succ, List.set_cons_zero]
      refine wp_pure rfl (.tmp 17) (.pointer (some ⟨b, 0, none⟩)) rfl (.pointer (some ⟨b, 0, none⟩)) (fun ρ h => by simp [execOp, h, go_sem]) ?_
      simp only [Act.put, List.setIfInBounds_toArray, List.set_cons_succ, List.set_cons_zero]
      refine wp_pure rfl (.tmp 18) (.pointer (some ⟨b, 0, none⟩)) rfl (.pointer (some ⟨b, 1, none⟩)) (fun ρ h => by simp [execOp, h, go_sem]) ?_
      simp only [Act.put, List.setIfInBounds_toArray, List.set_cons_succ, List.set_cons_zero]
      refine wp_pure rfl (.tmp 19) (.pointer (some ⟨b, 1, none⟩)) rfl (.slice (some ⟨g1, o1, none⟩) len c) (fun ρ h => by simp [execOp, h, go_sem, k1']) ?_
      simp only [Act.put, List.setIfInBounds_toArray, List.set_cons_succ, List.set_cons_zero]
      refine wp_move rfl (.tmp 3) rfl (.int .i64 (i : Nat)) rfl ?_
      simp only [Act.put, List.setIfInBounds_toArray, List.set_cons_succ, List.set_cons_zero]
      refine wp_slice Tryz.underlying50 rfl (.tmp 20) rfl (.slice (some ⟨g1, o1, none⟩) len c) rfl none (some (.int .i64 (i : Nat))) rfl rfl (.slice (some ⟨g1, o1, none⟩) i c) (hrunT _) ?_
      simp only [Act.put, List.setIfInBounds_toArray, List.set_cons_succ, List.set_cons_zero]
      refine wp_pure rfl (.tmp 22) (.slice (some ⟨g1, o1, none⟩) i c) rfl (.int .i64 (i : Nat)) (fun ρ h => by simp [execOp, h, go_sem]) ?_
      simp only [Act.put, List.setIfInBounds_toArray, List.set_cons_succ, List.set_cons_zero]
      go_wp2_with fail
      obtain ⟨gko, hgko⟩ : ∃ q, q = gk := ⟨_, rfl⟩
      rw [← hgko] at Hig
      clear hgko hrunT
      generalize wr = wo at *
      go_loopg [24] i (fun g iv wr => ∃ j : Nat, j + g = i ∧ iv = .int .i64 j ∧ (∀ y ∈ A.take j, okP x y) ∧ Below w8.heap.size w8 wr)
      case atStart => exact ⟨0, by omega, rfl, fun y hy => by simp at hy, Below.refl _ _⟩
      case round =>
        obtain ⟨j, hjg, rfl, hnj, hBw⟩ := hrel
        have Hnj := Lib.hid hnj
        have HBw := Lib.hid hBw
        have Hjg := Lib.hid hjg
        clear hnj hBw
        by_cases hjt : j < i
        · have hjtI : (j : Int) < (i : Int) := by omega
          have hjL : j < A.length := by omega
          obtain ⟨y, hy⟩ : ∃ y, y = A[j] := ⟨_, rfl⟩
          have hrg := HRange.out j hjL
          rw [← hy] at hrg
          have Hrg := Lib.hid (range_below hg1 hrg (HB8.out.trans (HBw.out.mono HB8.out.size)))
          have hyl : y.2.1.length = 32 := by rw [hy]; exact Hok.out _ (List.getElem_mem hjL)
          have hl34 := obV_len hyl
          have Hone1 := Lib.hid (one_row (obV_one y))
          have Hi1 := Lib.hid (show (Tryz.prog.info? 96).map (·.size) = some (obV y).length by rw [Hi0.out, hl34])
          have Hi2 := Lib.hid (show (Tryz.prog.info? 96).map (·.size) = some ((obV y).toArray).size by rw [Hi0.out, List.size_toArray, hl34])
          have Hsz2 := Lib.hid (show 34 = ((obV y).toArray).size by rw [List.size_toArray, hl34])
          have Hbx := Lib.hid (fun old => boxL_made wr old 96 (obV y))
          have Hyl := Lib.hid hyl
          have Hnx := Lib.hid (fun (k : okP x y) => ok_next hjL Hnj.out (by rw [← hy]; exact k))
          clear hrg hy hyl hl34
          go_upto_region 7 with (first | (refine wpList_load_mid rfl 96 (.tmp 26) rfl g1 (o1 + j * 34) rfl (obV y) _ Hrg.out Tryz.underlying96 rfl Hi1.out ?_) | (refine wpList_store_rowTo rfl 96 (.tmp 6) (.tmp 27) rfl rfl wr.heap.size (obV y).toArray rfl rfl 96 _ (heap_alloc_new wr _) Hi2.out (by rw [← Hsz2.out]; rfl) Hone1.out ?_))
          refine box_abs (Hbx.out _) ?_
          intro w9 hby
          have HBy := Lib.hid (HBx.out.below (HBw.out.trans (hby.b.mono HBw.out.size)))
          have HB9 := Lib.hid (HBw.out.trans (hby.b.mono HBw.out.size))
          obtain ⟨xk, hxk⟩ : ∃ q, q = x.1 := ⟨_, rfl⟩
          obtain ⟨xi, hxi⟩ : ∃ q, q = x.2.1 := ⟨_, rfl⟩
          obtain ⟨xs, hxs⟩ : ∃ q, q = x.2.2.1 := ⟨_, rfl⟩
          obtain ⟨yk, hyk⟩ : ∃ q, q = y.1 := ⟨_, rfl⟩
          obtain ⟨yi, hyi⟩ : ∃ q, q = y.2.1 := ⟨_, rfl⟩
          obtain ⟨ys, hys⟩ : ∃ q, q = y.2.2.1 := ⟨_, rfl⟩
          have hox : obV x = .string xk :: (bytV xi ++ [.string xs]) := by rw [hxk, hxi, hxs]; rfl
          have hoy : obV y = .string yk :: (bytV yi ++ [.string ys]) := by rw [hyk, hyi, hys]; rfl
          rw [hox] at HBy
          rw [hoy] at hby
          have Hxl2 := Lib.hid (show xi.length = 32 by rw [hxi]; exact Hxl.out)
          have Hyl2 := Lib.hid (show yi.length = 32 by rw [hyi]; exact Hyl.out)
          have Hokp := Lib.hid (show okP x y = (xk = yk → xi = yi → xs = ys) by unfold okP; rw [← hxk, ← hxi, ← hxs, ← hyk, ← hyi, ← hys])
          have kx0 := HBy.out.r 0 (.string xk) rfl
          have kx2 := HBy.out.r 33 (.string xs) (mid_last Hxl2.out)
          have Hmx := Lib.hid (mid_range HBy.out)
          have ky0 := hby.r 0 (.string yk) rfl
          have ky2 := hby.r 33 (.string ys) (mid_last Hyl2.out)
          have Hmy := Lib.hid (mid_range hby)
          obtain ⟨bz, hbz⟩ : ∃ q, q = wr.heap.size := ⟨_, rfl⟩
          rw [← hbz] at ky0 ky2 Hmy ⊢
          clear hox hoy hxk hxi hxs hyk hyi hys hby Hbx Hrg Hone1 Hi1 Hi2 Hsz2 hbz
          by_cases hk1 : xk = yk
          · by_cases hid1 : xi = yi
            · by_cases hs1 : xs = ys
              · have Hn := Lib.hid (Hnx.out (by rw [Hokp.out]; exact fun _ _ => hs1))
                subst hk1; subst hid1; subst hs1
                have hkk : (xk.toList == xk.toList) = true := by simp
                have hss : (xs.toList == xs.toList) = true := by simp
                have heq := fun v1 => eq_id (a := xi) (b := xi) Hxl2.out Hyl2.out v1
                rw [decide_eq_true (rfl : xi = xi)] at heq
                go_wp2_with (first | (refine wpList_load_mid_g8 rfl 32 (.tmp 34) rfl bx 1 rfl (bytV xi) _ Hmx.out Tryz.underlying32 rfl (by rw [bytV_len, Hxl2.out]; kernel_rfl) ?_) | (refine wpList_load_mid_g8 rfl 32 (.tmp 36) rfl bz 1 rfl (bytV xi) _ Hmy.out Tryz.underlying32 rfl (by rw [bytV_len, Hyl2.out]; kernel_rfl) ?_))
                go_roundg (gk - 1)
                case measure => omega
                case rel => exact ⟨j + 1, by omega, by go_num, Hn.out, HB9.out⟩
              · subst hk1; subst hid1
                have hkk : (xk.toList == xk.toList) = true := by simp
                have hss : (xs.toList == ys.toList) = false := beq_of_ne hs1
                have heq := fun v1 => eq_id (a := xi) (b := xi) Hxl2.out Hyl2.out v1
                rw [decide_eq_true (rfl : xi = xi)] at heq
                clear hs1
                go_wp2_with (first | (refine wpList_load_mid_g8 rfl 32 (.tmp 34) rfl bx 1 rfl (bytV xi) _ Hmx.out Tryz.underlying32 rfl (by rw [bytV_len, Hxl2.out]; kernel_rfl) ?_) | (refine wpList_load_mid_g8 rfl 32 (.tmp 36) rfl bz 1 rfl (bytV xi) _ Hmy.out Tryz.underlying32 rfl (by rw [bytV_len, Hyl2.out]; kernel_rfl) ?_))
                go_ret
                exact ⟨true, rfl, fun h => (by cases h), HB8.out.trans (HB9.out.mono HB8.out.size)⟩
            · have Hn := Lib.hid (Hnx.out (by rw [Hokp.out]; exact fun _ h => absurd h hid1))
              subst hk1
              have hkk : (xk.toList == xk.toList) = true := by simp
              have heq := fun v1 => eq_id (a := xi) (b := yi) Hxl2.out Hyl2.out v1
              rw [decide_eq_false hid1] at heq
              clear hid1
              go_wp2_with (first | (refine wpList_load_mid_g8 rfl 32 (.tmp 34) rfl bx 1 rfl (bytV xi) _ Hmx.out Tryz.underlying32 rfl (by rw [bytV_len, Hxl2.out]; kernel_rfl) ?_) | (refine wpList_load_mid_g8 rfl 32 (.tmp 36) rfl bz 1 rfl (bytV yi) _ Hmy.out Tryz.underlying32 rfl (by rw [bytV_len, Hyl2.out]; kernel_rfl) ?_))
              go_roundg (gk - 1)
              case measure => omega
              case rel => exact ⟨j + 1, by omega, by go_num, Hn.out, HB9.out⟩
          · have Hn := Lib.hid (Hnx.out (by rw [Hokp.out]; exact fun h => absurd h hk1))
            have hkk : (xk.toList == yk.toList) = false := beq_of_ne hk1
            clear hk1
            go_wp2_with fail
            go_roundg (gk - 1)
            case measure => omega
            case rel => exact ⟨j + 1, by omega, by go_num, Hn.out, HB9.out⟩
        · have hjn : ¬ (j : Int) < (i : Int) := by omega
          have hji : j = i := by omega
          have Hn := Lib.hid (show NoTw (A.take (i + 1)) by rw [Htk.out]; exact Hno.out.snoc (by rw [← hji]; exact Hnj.out))
          clear hji
          go_wp2_with fail
          go_roundg (gko - 1)
          case measure => have := Hig.out; omega
          case rel => exact ⟨i + 1, by have := Hig.out; omega, by go_num, Hn.out, HB8.out.trans (HBw.out.mono HB8.out.size)⟩
    · have hnI : ¬ (i : Int) < (len : Int) := by omega
      have Hn := Lib.hid (show NoTw A by
        have := Hno.out
        rwa [List.take_of_length_le (by have := Hlen.out; omega)] at this)
      go_wp2_with fail
      go_ret
      exact ⟨false, rfl, fun _ => Hn.out, HB.out⟩
end Go.Proofs.YtdhaanaenklleaaGreatDoor
namespace Go.Proofs.YtdhaanaenklleaaGreatDoor
set_option linter.unusedVariables false
set_option linter.unusedSimpArgs false
open Go.ChangeShapes Go.WideShapes Go.ChangeAt Go.RowKit

/-- What Build puts of these files, in any order, is among A. -/
def PutIn (A : List Obj8) (a : List Fil) : Prop := ∃ l' : List Fil, l'.Perm a ∧ SortedF l' ∧ Apart l' ∧ (∀ x ∈ l', obB x.2.1 ∈ A) ∧ (∀ t ∈ bldT 80 nilB l', obT t ∈ A)
theorem PutIn.mono {A B : List Obj8} {a : List Fil} (h : PutIn A a) (k : ∀ o ∈ A, o ∈ B) : PutIn B a := by
  obtain ⟨l', h1, h2, h3, h4, h5⟩ := h
  exact ⟨l', h1, h2, h3, fun x hx => k _ (h4 x hx), fun t ht => k _ (h5 t ht)⟩
def ClEnd (ls : List (List Fil)) (w : World) (e : Ending) (w' : World) : Prop := ∃ r : Bool, e = .returned (.bool r) ∧ (r = false → ∃ A : List Obj8, NoTw A ∧ ∀ a ∈ ls, PutIn A a) ∧ Below w.heap.size w w'
set_option maxRecDepth 100000 in
set_option maxHeartbeats 400000 in
theorem clash11_any (g n c : Nat) (vs : List Value) (ls : List (List Fil)) (w : World) (hg : w.heap[g]? = some (.cells vs.toArray 22 (0, 0))) (hn : n = ls.length) (hvs : vs.length = ls.length) (h3 : ls.length ≤ 3) (hnc : n ≤ c) (hc : c ≤ 9223372036854775807)
    (hR : ∀ (k : Nat) (h1 : k < vs.length) (h2 : k < ls.length), Rows w 2 filR vs[k] ls[k]) (hA : ∀ a ∈ ls, a.length ≤ 60 ∧ whyF a = 0 ∧ ∀ x ∈ a, x.2.1.size ≤ 4096) :
    Calls Tryz.prog 11 #[.slice (some ⟨g, 0, none⟩) n c] w (ClEnd ls w) := by
  have hgw : g < w.heap.size := lt_of_block hg
  have Hc := Lib.hid (fun (k : Nat) (h : k < vs.length) => (show w.cell? ⟨g, k, none⟩ = some vs[k] by rw [block_cell hg k]; simp [h]))
  have HB0 := Lib.hid ((Below.refl w.heap.size w).alloc (Nat.le_refl _) (.cells #[.slice none 0 0, .slice none 0 0] 52))
  have HS0 := Lib.hid (show RSt (fun q => q = w.heap.size) w.heap.size [] [] (w.alloc (.cells #[.slice none 0 0, .slice none 0 0] 52)) from
    ⟨fun q hq => by rw [hq]; simp, ⟨by simp, by simp⟩, .slice none 0 0, .slice none 0 0, heap_alloc_new w _, ⟨rfl, .inl ⟨rfl, rfl⟩⟩, ⟨rfl, .inl ⟨rfl, rfl⟩⟩, rfl, fun q hq => (by cases hq), fun q hq => (by cases hq), fun q hq => (by cases hq)⟩)
  have HRw := Lib.hid hR
  have HAl := Lib.hid hA
  have Hn := Lib.hid hn
  have Hvs := Lib.hid hvs
  have H3 := Lib.hid h3
  clear hg hn hvs h3 hR hA
  go_enter Tryz.func11, Tryz.ntmps11
  go_wp2_with fail
  generalize w.alloc (.cells #[.slice none 0 0, .slice none 0 0] 52) = w1 at *
  obtain ⟨b, hb⟩ : ∃ q, q = w.heap.size := ⟨_, rfl⟩
  rw [← hb] at HS0
  have Hb := Lib.hid hb
  simp only [← hb]
  clear hb
  go_loopg [10] n (fun gg iv wr => ∃ (i : Nat) (T : Nat → Prop) (L A : List Obj8), i + gg = n ∧ iv = .int .i64 i ∧ RSt T b L A wr ∧ (∀ q, T q → w.heap.size ≤ q) ∧ Below w.heap.size w wr ∧ L.length ≤ 1100 * i ∧ A.length ≤ 1100 * i ∧ ∀ a ∈ ls.take i, PutIn A a)
  case atStart => exact ⟨0, _, [], [], by omega, rfl, HS0.out, fun q hq => by have := Hb.out; omega, HB0.out, by simp, by simp, fun a ha => by simp at ha⟩
  case round =>
    clear HS0 HB0
    obtain ⟨i, T, L, A, hig, rfl, hS, hT, hB, hL, hAl, hP⟩ := hrel
    by_cases hlt : i < n
    · have hltI : (i : Int) < (n : Int) := by omega
      have hil : i < ls.length := by have := Hn.out; omega
      have hiv : i < vs.length := by have := Hvs.out; omega
      have hc1 := (hB.cell (p := ⟨g, i, none⟩) hgw).trans (Hc.out i hiv)
      obtain ⟨ha1, ha2, ha3⟩ := HAl.out _ (List.getElem_mem hil)
      have HBd := Lib.hid (refBuild_any hS vs[i] ls[i] ((HRw.out i hiv hil).below hB) ha1 ha2 ha3 (by have := Hn.out; have := H3.out; omega) (by have := Hn.out; have := H3.out; omega))
      obtain ⟨v, hv⟩ : ∃ v, v = vs[i] := ⟨_, rfl⟩
      rw [← hv] at HBd hc1
      obtain ⟨a, hae⟩ : ∃ a, a = ls[i] := ⟨_, rfl⟩
      rw [← hae] at HBd ha1
      have Htk := Lib.hid (show ls.take (i + 1) = ls.take i ++ [a] by rw [hae]; exact List.take_succ_eq_append_getElem hil)
      obtain ⟨vp, vn, vc, hvsl⟩ : ∃ p n c, v = .slice p n c := by
        rw [hv]
        obtain ⟨p, c, e, -⟩ := (HRw.out i hiv hil).elem rfl
        exact ⟨p, _, c, e⟩
      subst hvsl
      have HB := Lib.hid hB
      have HT := Lib.hid hT
      have HP := Lib.hid hP
      have HLl := Lib.hid hL
      have HAA := Lib.hid hAl
      have Ha1 := Lib.hid ha1
      have Hig := Lib.hid hig
      clear hS hT hB hP hae hv ha1 ha2 ha3 hL hAl hig hil hiv
      go_wp2_with fail
      refine HBd.out.mono ?_
      rintro e w2 ⟨l', hp1, hp2, hp3, rfl, T2, L2, A2, hT2, hR2, hI2, hK2⟩
      have hll : l'.length ≤ 60 := by rw [hp1.length_eq]; exact Ha1.out
      have htl := bldt_len (n := 80) (low_top hp2 hp3)
      have hL2 := hI2.l
      have hA2 := hI2.a
      have hL := HLl.out
      have hAl := HAA.out
      have hLL := Lib.hid (show L2.length ≤ 1100 * (i + 1) ∧ A2.length ≤ 1100 * (i + 1) from ⟨by omega, by omega⟩)
      clear hL hAl hL2 hA2 htl hll
      have HT2 := Lib.hid (show ∀ q, T2 q → w.heap.size ≤ q from fun q hq => by
        rcases hT2 q hq with h9 | h9
        · exact HT.out q h9
        · have := HB.out.size; omega)
      have HS2 := Lib.hid hR2
      have HB2 := Lib.hid (HB.out.trans (hK2.below HT.out HB.out.size))
      have HP2 := Lib.hid (show ∀ a ∈ ls.take (i + 1), PutIn A2 a from fun a' h' => by
        rw [Htk.out] at h'
        rcases List.mem_append.1 h' with h' | h'
        · exact (HP.out a' h').mono hI2.o
        · rw [List.mem_singleton.1 h']
          exact ⟨l', hp1, hp2, hp3, hI2.f, hI2.t⟩)
      clear hp1 hp2 hp3 hT2 hR2 hI2 hK2 HBd
      go_wp2_with fail
      go_roundg (gk - 1)
      case measure => have := Hig.out; omega
      case rel => have := Hig.out; exact ⟨i + 1, T2, L2, A2, by omega, by go_num, HS2.out, HT2.out, HB2.out, hLL.out.1, hLL.out.2, HP2.out⟩
    · have hnI : ¬ (i : Int) < (n : Int) := by omega
      have HTw := Lib.hid (twice33_any hS (by have := Hn.out; have := H3.out; omega))
      have HP := Lib.hid (show ∀ a ∈ ls, PutIn A a by rwa [List.take_of_length_le (by have := Hn.out; omega)] at hP)
      have HB := Lib.hid hB
      clear hS hT hB hP
      go_wp2_with fail
      refine HTw.out.mono ?_
      rintro e w2 ⟨r, rfl, hr, hB2⟩
      have Hr := Lib.hid hr
      have HB2 := Lib.hid (HB.out.trans (hB2.mono HB.out.size))
      clear hr hB2
      go_wp2_with fail
      go_ret
      exact ⟨r, rfl, fun h => ⟨A, Hr.out h, HP.out⟩, HB2.out⟩
end Go.Proofs.YtdhaanaenklleaaGreatDoor
namespace Go.Proofs.YtdhaanaenklleaaGreatDoor.S

theorem be_num (x : Nat) (h : x < 18446744073709551616) : be (numB x).data.toList = x := by
  rw [numB_list, be8]
  simp only [dg_nat, Nat.reducePow, Nat.pow_zero, Nat.div_one]
  omega

theorem len8_of {s : ByteArray} {x : Nat} {t : List UInt8} (h : s.data.toList = (numB x).data.toList ++ t) (hx : x < 18446744073709551616) : len8 s = x := by
  unfold len8
  rw [h, List.take_append_of_le_length (by rw [numB_len]; omega), List.take_of_length_le (by rw [numB_len]; omega), be_num x hx]

theorem cutB_join (s p : ByteArray) (t : List UInt8) (h : s.data.toList = (numB p.size).data.toList ++ p.data.toList ++ t) (hp : p.size < 18446744073709551616) : cutB s = some (p, mkB t) := by
  have hl : len8 s = p.size := len8_of (by rw [h, List.append_assoc]) hp
  have hs : s.size = 8 + p.size + t.length := by rw [← ba_len, h, List.length_append, List.length_append, numB_len, ba_len]
  unfold cutB
  rw [if_neg (by omega), if_neg (by omega), hl]
  have e1 : s.extract 8 (8 + p.size) = p := ba_ext (by
    rw [Lib.extract_data, h, List.append_assoc, List.drop_append_of_le_length (by rw [numB_len]; omega), List.drop_of_length_le (by rw [numB_len]; omega), List.nil_append,
      List.take_append_of_le_length (by rw [ba_len]; omega), List.take_of_length_le (by rw [ba_len]; omega)])
  have e2 : s.extract (8 + p.size) s.size = mkB t := ba_ext (by
    rw [Lib.extract_data, h, mkB_toList, List.drop_left' (by rw [List.length_append, numB_len, ba_len]), List.take_of_length_le (by omega)])
  rw [e1, e2]

theorem cutsB_join : ∀ (ss : List ByteArray) (s : ByteArray) (t : List UInt8), s.data.toList = partsL ss ++ t → (∀ p ∈ ss, p.size < 18446744073709551616) → cutsB ss.length s = some (ss, mkB t) := by
  intro ss
  induction ss with
  | nil => intro s t h _; simp only [partsL, List.nil_append] at h; simp only [List.length_nil, cutsB]; rw [← h, mkB_data]
  | cons p r ih =>
    intro s t h hp
    have hc := cutB_join s p (partsL r ++ t) (by rw [h, partsL]; simp [List.append_assoc]) (hp p (by simp))
    have hk := ih (mkB (partsL r ++ t)) t (by rw [mkB_toList]) (fun q hq => hp q (by simp [hq]))
    simp only [List.length_cons, cutsB, hc, hk]

theorem split_join (ss : List ByteArray) (hl : ss.length < 18446744073709551616) (hp : ∀ p ∈ ss, p.size < 18446744073709551616) : splitB (joinB ss) = some ss := by
  have hs : (joinB ss).size = 8 + (partsL ss).length := by rw [← ba_len, joinB_list, List.length_append, numB_len]
  unfold splitB
  rw [if_neg (by omega), len8_of (joinB_list ss) hl]
  have : ((joinB ss).extract 8 (joinB ss).size).data.toList = partsL ss ++ [] := by
    rw [Lib.extract_data, joinB_list, List.drop_left' (by rw [numB_len]), List.take_of_length_le (by omega), List.append_nil]
  rw [cutsB_join ss _ [] this hp]
  rfl

end Go.Proofs.YtdhaanaenklleaaGreatDoor.S
namespace Go.Proofs.YtdhaanaenklleaaGreatDoor
set_option linter.unusedVariables false
set_option linter.unusedSimpArgs false
open Go.ChangeShapes Go.WideShapes Go.ChangeAt Go.RowKit

def triOk (a d : ByteArray) : Bool := (decide (a = kindB false) || decide (a = kindB true)) && decide (d.size = 32)
def entOf (a n d : ByteArray) : Ent := (n, decide (a = kindB true), d.data.toList, ())
def decE : List ByteArray → Option (List Ent)
  | [] => some []
  | a :: n :: d :: r => if triOk a d = true then (decE r).map (entOf a n d :: ·) else none
  | [_] => none
  | [_, _] => none
theorem decE_cons (a n d : ByteArray) (r : List ByteArray) : decE (a :: n :: d :: r) = if triOk a d = true then (decE r).map (entOf a n d :: ·) else none := rfl
theorem decE_parts : ∀ l : List Ent, (∀ x ∈ l, x.2.2.1.length = 32) → decE (partsE l) = some l
  | [], _ => rfl
  | (n, td, d, ()) :: l, h => by
    have : partsE ((n, td, d, ()) :: l) = kindB td :: n :: idB d :: partsE l := rfl
    have hd : d.length = 32 := h _ List.mem_cons_self
    have ht : triOk (kindB td) (idB d) = true := by unfold triOk; rw [idB_size, hd]; cases td <;> decide
    have he : entOf (kindB td) n (idB d) = (n, td, d, ()) := by
      unfold entOf idB
      have : decide (kindB td = kindB true) = td := by cases td <;> decide
      rw [this]
    rw [this, decE_cons, if_pos ht, decE_parts l (fun x hx => h x (List.mem_cons_of_mem _ hx)), he]
    rfl
def getP (ps : List ByteArray) : Option (List Ent) := if ps.length % 3 ≠ 0 then none else match decE ps with
  | none => none
  | some l => if goodT l = true then some l else none
def getT (s : ByteArray) : Option (List Ent) := match S.splitB s with
  | none => none
  | some ps => getP ps
theorem getT_tree {l : List Ent} (hg : goodT l = true) (h : ∀ x ∈ l, x.2.2.1.length = 32 ∧ x.1.size ≤ 1048576) (hn : l.length ≤ 1048576) : getT (treeB l) = some l := by
  unfold getT treeB
  have hsz : ∀ p ∈ partsE l, p.size < 18446744073709551616 := fun p hp => by
    obtain ⟨x, hx, hp⟩ := List.mem_flatMap.1 hp
    have := h x hx
    simp only [partE, List.mem_cons, List.not_mem_nil, or_false] at hp
    rcases hp with rfl | rfl | rfl
    · rw [kindB_size]; omega
    · omega
    · rw [idB_size]; omega
  rw [S.split_join (partsE l) (by rw [partsE_len]; omega) hsz]
  unfold getP
  simp only
  rw [if_neg (by rw [partsE_len]; omega), decE_parts l (fun x hx => (h x hx).1)]
  simp only
  rw [if_pos hg]
end Go.Proofs.YtdhaanaenklleaaGreatDoor
namespace Go.Proofs.YtdhaanaenklleaaGreatDoor
set_option linter.unusedVariables false
set_option linter.unusedSimpArgs false
open Go.ChangeShapes Go.WideShapes Go.ChangeAt Go.RowKit

end Go.Proofs.YtdhaanaenklleaaGreatDoor
namespace Go.Proofs.YtdhaanaenklleaaGreatDoor
set_option linter.unusedVariables false
set_option linter.unusedSimpArgs false
open Go.ChangeShapes Go.WideShapes Go.ChangeAt Go.RowKit

end Go.Proofs.YtdhaanaenklleaaGreatDoor
namespace Go.Proofs.YtdhaanaenklleaaGreatDoor
set_option linter.unusedVariables false
set_option linter.unusedSimpArgs false
open Go.ChangeShapes Go.WideShapes Go.ChangeAt Go.RowKit

end Go.Proofs.YtdhaanaenklleaaGreatDoor
namespace Go.Proofs.YtdhaanaenklleaaGreatDoor.K3
open Go.RowKit
set_option linter.unusedVariables false
set_option linter.unusedSimpArgs false

section
variable {P : Program} {l : List Oper} {a0 : Act} {w0 : World} {N0 : Nat} {R : Nat → Value → World → Prop} {s kd : List Nat} {kl : List (List Nat)} {Q : Exit → Act → World → Prop}
end

/-! For the use. -/
end Go.Proofs.YtdhaanaenklleaaGreatDoor.K3
namespace Go.Proofs.YtdhaanaenklleaaGreatDoor
set_option linter.unusedVariables false
set_option linter.unusedSimpArgs false
open Go.ChangeShapes Go.WideShapes Go.ChangeAt Go.RowKit

end Go.Proofs.YtdhaanaenklleaaGreatDoor
namespace Go.Proofs.YtdhaanaenklleaaGreatDoor
set_option linter.unusedVariables false
set_option linter.unusedSimpArgs false
open Go.ChangeShapes Go.WideShapes Go.ChangeAt Go.RowKit

theorem back_tree {a : List Ent} (hg : goodT a = true) (hz : ∀ x ∈ a, x.1.size ≤ 4096) (h32 : ∀ x ∈ a, x.2.2.1.length = 32) (hn : a.length ≤ 60) : getT (treeB a) = some a :=
  getT_tree hg (fun x hx => ⟨h32 x hx, by have := hz x hx; omega⟩) (by omega)
end Go.Proofs.YtdhaanaenklleaaGreatDoor
namespace Go.Proofs.YtdhaanaenklleaaGreatDoor
set_option linter.unusedVariables false
set_option linter.unusedSimpArgs false
open Go.ChangeShapes Go.WideShapes Go.ChangeAt Go.RowKit

end Go.Proofs.YtdhaanaenklleaaGreatDoor
namespace Go.Proofs.YtdhaanaenklleaaGreatDoor
open Go.ChangeShapes Go.WideShapes Go.ChangeAt Go.RowKit
end Go.Proofs.YtdhaanaenklleaaGreatDoor
namespace Go.Proofs.YtdhaanaenklleaaGreatDoor
set_option linter.unusedVariables false
set_option linter.unusedSimpArgs false
open Go.ChangeShapes Go.WideShapes Go.ChangeAt Go.RowKit

theorem blds_low : ∀ (n : Nat) (d : ByteArray) (l : List Fil), Low d l → ∀ t ∈ bldS n d l, ∃ (m : Nat) (d2 : ByteArray) (l2 : List Fil), t = bldE m d2 l2 ∧ Low d2 l2 ∧ l2.length ≤ l.length
  | 0, d, l, _ => by simp [bldS]
  | n + 1, d, [], _ => by simp [bldS]
  | n + 1, d, f :: r, h => by
    intro t ht
    by_cases hw : partH (underB d f.1).1 = (underB d f.1).1
    · rw [bldS, if_pos hw] at ht
      obtain ⟨m, d2, l2, h1, h2, h3⟩ := blds_low n d r h.tail t ht
      exact ⟨m, d2, l2, h1, h2, by rw [List.length_cons]; omega⟩
    · rw [bldS, if_neg hw] at ht
      have hI := h.into (e := jn d (partH (underB d f.1).1))
      rcases List.mem_append.1 ht with ht | ht
      · rcases List.mem_append.1 ht with ht | ht
        · obtain ⟨m, d2, l2, h1, h2, h3⟩ := blds_low n _ _ hI t ht
          exact ⟨m, d2, l2, h1, h2, by rw [List.length_take] at h3; omega⟩
        · rw [List.mem_singleton.1 ht]
          exact ⟨n, _, _, rfl, hI, by rw [List.length_take]; omega⟩
      · obtain ⟨m, d2, l2, h1, h2, h3⟩ := blds_low n _ _ (h.drop (belowN (jn d (partH (underB d f.1).1)) (f :: r))) t ht
        exact ⟨m, d2, l2, h1, h2, by rw [List.length_drop] at h3; omega⟩
theorem bldt_back {n : Nat} {d : ByteArray} {l : List Fil} (h : Low d l) (hl : l.length ≤ 60) {t : List Ent} (ht : t ∈ bldT n d l) : getT (treeB t) = some t := by
  have key : ∃ (m : Nat) (d2 : ByteArray) (l2 : List Fil), t = bldE m d2 l2 ∧ Low d2 l2 ∧ l2.length ≤ l.length := by
    rcases List.mem_append.1 ht with ht | ht
    · exact blds_low n d l h t ht
    · exact ⟨n, d, l, List.mem_singleton.1 ht, h, Nat.le_refl _⟩
  obtain ⟨m, d2, l2, rfl, h2, h3⟩ := key
  have h4 := (bld_names m d2 l2 h2).2.2
  exact back_tree (bld_good m h2 (by omega)) (fun x hx => by have := bld_short m h2 x hx; omega) (bld_ids m d2 l2) (by omega)
/-- The trees and bytes of l are among A. -/
structure InA (A : List Obj8) (l : List Fil) : Prop where
  s : SortedF l
  p : Apart l
  n : l.length ≤ 60
  f : ∀ x ∈ l, obB x.2.1 ∈ A
  t : ∀ t ∈ bldT 80 nilB l, obT t ∈ A
theorem tree_inj {A : List Obj8} (hN : NoTw A) {l1 l2 : List Fil} (h1 : InA A l1) (h2 : InA A l2) {t u : List Ent} (ht : t ∈ bldT 80 nilB l1) (hu : u ∈ bldT 80 nilB l2) (e : tid (treeB t) = tid (treeB u)) : t = u := by
  have h3 : treeB t = treeB u := hN _ (h1.t t ht) _ (h2.t u hu) rfl e
  have b1 := bldt_back (low_top h1.s h1.p) h1.n ht
  have b2 := bldt_back (low_top h2.s h2.p) h2.n hu
  rw [h3, b2] at b1
  injection b1 with b1
  exact b1.symm
def lookT (ts : List (List Ent)) (x : List UInt8) : Option (List Ent) := ts.find? (fun t => decide (tid (treeB t) = x))
theorem lookT_mem {ts : List (List Ent)} (hi : ∀ t ∈ ts, ∀ u ∈ ts, tid (treeB t) = tid (treeB u) → t = u) {t : List Ent} (ht : t ∈ ts) : lookT ts (tid (treeB t)) = some t := by
  unfold lookT
  cases hf : ts.find? (fun u => decide (tid (treeB u) = tid (treeB t))) with
  | none =>
    have := List.find?_eq_none.1 hf t ht
    simp at this
  | some u =>
    have h1 := List.find?_some hf
    have h2 := List.mem_of_find?_eq_some hf
    rw [hi u h2 t ht (of_decide_eq_true h1)]
theorem cnt_ok {l : List Fil} (h : Low nilB l) (hl : l.length ≤ 60) : 0 + cntE 80 nilB l ≤ 4096 := by
  have h1 := blds_len 80 nilB l h
  have h2 : l.length * (16 - (splitL nilB).length) ≤ 60 * 16 := Nat.mul_le_mul hl (by omega)
  unfold cntE
  omega
theorem files_inj {A : List Obj8} (hN : NoTw A) {l1 l2 : List Fil} (h1 : InA A l1) (h2 : InA A l2) (e : l1.map fileP = l2.map fileP) : l1 = l2 := by
  have hlen : l1.length = l2.length := by have := congrArg List.length e; simpa using this
  refine List.ext_getElem hlen (fun i hi1 hi2 => ?_)
  have h3 := congrArg (fun l => l[i]?) e
  simp only [List.getElem?_map, List.getElem?_eq_getElem hi1, List.getElem?_eq_getElem hi2, Option.map_some] at h3
  injection h3 with h3
  have p1 : l1[i].1 = l2[i].1 := congrArg (fun x : PId => x.1) h3
  have p2 : bid l1[i].2.1 = bid l2[i].2.1 := congrArg (fun x : PId => x.2.1) h3
  have p3 : l1[i].2.1 = l2[i].2.1 := hN _ (h1.f _ (List.getElem_mem hi1)) _ (h2.f _ (List.getElem_mem hi2)) rfl p2
  exact Prod.ext p1 (Prod.ext p3 rfl)
theorem bld_inj {A : List Obj8} (hN : NoTw A) {l1 l2 : List Fil} (h1 : InA A l1) (h2 : InA A l2) (e : tid (treeB (bldE 80 nilB l1)) = tid (treeB (bldE 80 nilB l2))) : l1 = l2 := by
  have m1 : bldE 80 nilB l1 ∈ bldT 80 nilB l1 := List.mem_append_right _ List.mem_cons_self
  have m2 : bldE 80 nilB l2 ∈ bldT 80 nilB l2 := List.mem_append_right _ List.mem_cons_self
  have hE := tree_inj hN h1 h2 m1 m2 e
  have low1 := low_top h1.s h1.p
  have low2 := low_top h2.s h2.p
  have hi : ∀ t ∈ bldT 80 nilB l1 ++ bldT 80 nilB l2, ∀ u ∈ bldT 80 nilB l1 ++ bldT 80 nilB l2, tid (treeB t) = tid (treeB u) → t = u := fun t ht u hu e => by
    rcases List.mem_append.1 ht with ht | ht <;> rcases List.mem_append.1 hu with hu | hu
    · exact tree_inj hN h1 h1 ht hu e
    · exact tree_inj hN h1 h2 ht hu e
    · exact tree_inj hN h2 h1 ht hu e
    · exact tree_inj hN h2 h2 ht hu e
  have r1 := thr_bld (lookT (bldT 80 nilB l1 ++ bldT 80 nilB l2)) 80 nilB l1 15 0 [] low1 (by rw [nilB_split]; have := h1.n; simp only [List.length_nil]; omega) (by rw [nilB_split]; decide) (cnt_ok low1 h1.n) (fun a ha => lookT_mem hi (List.mem_append_left _ (List.mem_append_left _ ha)))
  have r2 := thr_bld (lookT (bldT 80 nilB l1 ++ bldT 80 nilB l2)) 80 nilB l2 15 0 [] low2 (by rw [nilB_split]; have := h2.n; simp only [List.length_nil]; omega) (by rw [nilB_split]; decide) (cnt_ok low2 h2.n) (fun a ha => lookT_mem hi (List.mem_append_right _ (List.mem_append_left _ ha)))
  rw [hE, r2] at r1
  injection r1 with _ r1
  injection r1 with _ r1
  simp only [List.nil_append] at r1
  exact files_inj hN h1 h2 r1.symm
end Go.Proofs.YtdhaanaenklleaaGreatDoor
namespace Go.Proofs.YtdhaanaenklleaaGreatDoor
set_option linter.unusedVariables false
set_option linter.unusedSimpArgs false
open Go.ChangeShapes Go.WideShapes Go.ChangeAt Go.RowKit

theorem lits_fil {t : Fil} (h1 : t.1.size ≤ 1073741824) (h2 : t.2.1.size ≤ 1073741824) : Tryz.prog.keyLits 2 44 (filV t) = some [.string t.1.data.toList, .string t.2.1.data.toList] := by
  have hs : ∀ s : ByteArray, s.size ≤ 1073741824 → Tryz.prog.keyLits 1 9 [.string s] = some [.string s.data.toList] := fun s hs => by
    simp only [Program.keyLits, Tryz.underlying9]
    rw [if_pos (by unfold maxLen; omega)]
  have hc : Tryz.prog.cellsOf 44 = 2 := by kernel_rfl
  have hc9 : Tryz.prog.cellsOf 9 = 1 := by kernel_rfl
  unfold Program.keyLits filV
  rw [Tryz.underlying44]
  simp only [List.length_cons, List.length_nil, hc]
  rw [if_pos ⟨trivial, by kernel_rfl⟩]
  simp only [List.mapM_cons, List.mapM_nil, hc9, List.drop_zero, List.take_succ_cons, List.take_zero, hs t.1 h1, List.drop_succ_cons, hs t.2.1 h2]
  rfl
theorem eq_fil {a b : Fil} (ha : a.1.size ≤ 1073741824 ∧ a.2.1.size ≤ 1073741824) (hb : b.1.size ≤ 1073741824 ∧ b.2.1.size ≤ 1073741824) (w : World) : (Op.equalIn 10000 44 (.agg (filV a).toArray) (.agg (filV b).toArray)).run Tryz.prog w = .ok (decide (a = b)) w := by
  have hc : Tryz.prog.cellsOf 44 = 2 := by kernel_rfl
  have hf : ∀ t : Fil, (Value.agg (filV t).toArray).formed Tryz.prog 44 = true := fun t => by simp [Value.formed, Tryz.underlying44, hc, filV]
  obtain ⟨r, hr, hiff⟩ := run_equalIn_deep (P := Tryz.prog) 9998 2 44 (by kernel_rfl) w 2 2 _ _ _ _ (hf a) (hf b) (lits_fil ha.1 ha.2) (lits_fil hb.1 hb.2)
  have : r = decide (a = b) := by
    rw [Bool.eq_iff_iff, hiff, decide_eq_true_iff]
    obtain ⟨a1, a2, a3⟩ := a
    obtain ⟨b1, b2, b3⟩ := b
    constructor
    · intro h
      simp only [List.cons.injEq, Lit.string.injEq, and_true] at h
      rw [ba_ext h.1, ba_ext h.2]
    · intro h
      cases h; rfl
  rw [← this]
  exact hr
theorem slice_two28 (w : World) (p q : Option Addr) (m n c e : Nat) : (Instr.buildSlice 28 2 #[(0, .slice p m c), (1, .slice q n e)]).run Tryz.prog w = .ok (.slice (some ⟨w.heap.size, 0, none⟩) 2 2) (w.alloc (.cells #[.slice p m c, .slice q n e] 22)) := by
  obtain ⟨i0, hi, hz0, hz1, hz2⟩ := info_parts (show (Tryz.prog.info? 22).map (fun i => (i.zero, i.size, i.bytes)) = some (some (.slice none 0 0), 1, 24) by kernel_rfl)
  refine run_buildSlice w 28 22 2 _ _ i0 _ Tryz.underlying28 hi hz0 (by rw [hz1]; decide) (by rw [hz1]; decide) ?_
  rw [hz1]
  simp [Instr.fill, Value.cells]
  refine Array.ext (by simp) (fun i h1 h2 => ?_)
  simp at h2
  match i, h2 with
  | 0, _ => simp
  | 1, _ => simp
/-- The documents' sorted list is the one that Build made a tree of. -/
theorem putin_in {A : List Obj8} {a O : List Fil} (h : PutIn A a) (hn : a.length ≤ 60) (hp : O.Perm a) (hs : SortedF O) : InA A O := by
  obtain ⟨l', h1, h2, h3, h4, h5⟩ := h
  have e : l' = O := sorted_one (h1.trans hp.symm) h3 h2 hs
  subst e
  exact ⟨h2, h3, by rw [h1.length_eq]; exact hn, h4, h5⟩
end Go.Proofs.YtdhaanaenklleaaGreatDoor
