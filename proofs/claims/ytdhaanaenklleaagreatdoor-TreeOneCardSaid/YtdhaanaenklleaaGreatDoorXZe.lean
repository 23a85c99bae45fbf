/- The document's tree of the files in a directory. -/
import Derived.Test.YtdhaanaenklleaaGreatDoorQc
import Derived.Test.YtdhaanaenklleaaGreatDoorQb
namespace Go.Proofs.YtdhaanaenklleaaGreatDoor
set_option linter.unusedVariables false
set_option linter.unusedSimpArgs false
open Go.ChangeShapes Go.WideShapes Go.ChangeAt Go.RowKit

def blobK : ByteArray := ⟨#[98, 108, 111, 98]⟩
def treeK : ByteArray := ⟨#[116, 114, 101, 101]⟩
def obB (s : ByteArray) : Obj8 := (blobK, kid blobK s, s, ())
def obT (t : List Ent) : Obj8 := (treeK, kid treeK (treeB t), treeB t, ())
theorem kid_bid (s : ByteArray) : kid blobK s = bid s := rfl
theorem kid_tid (s : ByteArray) : kid treeK s = tid s := rfl
/-- What was put, and how much. -/
structure Inn (L A : List Obj8) (Q : List Fil) (Sx : List (List Ent)) (L2 A2 : List Obj8) : Prop where
  l : L2.length ≤ L.length + (Q.length + Sx.length)
  a : A2.length ≤ A.length + (Q.length + Sx.length)
  o : ∀ o ∈ A, o ∈ A2
  f : ∀ x ∈ Q, obB x.2.1 ∈ A2
  t : ∀ t ∈ Sx, obT t ∈ A2
theorem Inn.refl (L A : List Obj8) : Inn L A [] [] L A := ⟨Nat.le_refl _, Nat.le_refl _, fun _ h => h, by simp, by simp⟩
theorem Inn.trans {L A L2 A2 L3 A3 : List Obj8} {Q Q2 : List Fil} {S S2 : List (List Ent)} (h : Inn L A Q S L2 A2) (k : Inn L2 A2 Q2 S2 L3 A3) : Inn L A (Q ++ Q2) (S ++ S2) L3 A3 := by
  have h1 := h.l; have h2 := h.a; have k1 := k.l; have k2 := k.a
  refine ⟨by simp only [List.length_append]; omega, by simp only [List.length_append]; omega, fun o ho => k.o o (h.o o ho), fun x hx => ?_, fun t ht => ?_⟩
  · rcases List.mem_append.1 hx with hx | hx
    · exact k.o _ (h.f x hx)
    · exact k.f x hx
  · rcases List.mem_append.1 ht with ht | ht
    · exact k.o _ (h.t t ht)
    · exact k.t t ht
theorem Inn.blob (L A : List Obj8) (x : Fil) : Inn L A [x] [] (putL L (obB x.2.1)) (A ++ [obB x.2.1]) := by
  have := putL_len L (obB x.2.1)
  exact ⟨this, by simp, fun o ho => List.mem_append_left _ ho, fun y hy => by rw [List.mem_singleton.1 hy]; exact List.mem_append_right _ List.mem_cons_self, by simp⟩
theorem Inn.tree (L A : List Obj8) (t : List Ent) : Inn L A [] [t] (putL L (obT t)) (A ++ [obT t]) := by
  have := putL_len L (obT t)
  exact ⟨this, by simp, fun o ho => List.mem_append_left _ ho, by simp, fun y hy => by rw [List.mem_singleton.1 hy]; exact List.mem_append_right _ List.mem_cons_self⟩
def BlwEnd (T : Nat → Prop) (b : Nat) (L A : List Obj8) (N : Nat) (d : ByteArray) (F : List Fil) (w : World) (e : Ending) (w' : World) : Prop :=
  e = .returned (.agg (bytV (tid (treeB (bldE N d F)))).toArray) ∧ ∃ (T2 : Nat → Prop) (L2 A2 : List Obj8), (∀ q, T2 q → T q ∨ w.heap.size ≤ q) ∧ RSt T2 b L2 A2 w' ∧ Inn L A F (bldT N d F) L2 A2 ∧ Kp T w w'
/-- Where the loop stands. -/
structure WAt (T : Nat → Prop) (b : Nat) (L A : List Obj8) (N : Nat) (d : ByteArray) (l : List Fil) (w1 : World) (g : Nat) (ev lv iv : Value) (wr : World) : Prop where
  x : ∃ (i m : Nat) (Q Zz S : List Fil) (E : List Ent) (Sx : List (List Ent)) (la : ByteArray) (T2 : Nat → Prop) (L2 A2 : List Obj8),
    i + g = l.length ∧ iv = .int .i64 i ∧ lv = .string la ∧ filt d l = Q ++ S ∧ filt d (l.drop i) = Zz ++ S ∧ m ≤ N ∧ S.length + (17 - (splitL d).length) ≤ m ∧
    bldE N d (filt d l) = E ++ bldE m d S ∧ bldS N d (filt d l) = Sx ++ bldS m d S ∧
    (∀ x ∈ Q, ∀ y ∈ S, bl (hdP d x) (hdP d y) = true) ∧ (∀ z ∈ Zz, hdP d z = la ∧ hdP d z ≠ (underB d z.1).1) ∧ (Zz ≠ [] → ∃ E0 e0, E = E0 ++ [e0] ∧ e0.1 = la ∧ e0.2.1 = true) ∧ (E = [] ∨ ∃ x ∈ Q, la = hdP d x) ∧
    wr.ownsRow w1.heap.size 58 34 ev E.length (LF entV E) ∧ RSt T2 b L2 A2 wr ∧ (∀ q, T2 q → T q ∨ w1.heap.size ≤ q) ∧ (∀ q, ev.ownBlock = some q → ¬ T2 q) ∧ Kp (fun q => T q ∨ w1.heap.size ≤ q) w1 wr ∧ Inn L A Q Sx L2 A2
theorem filt_next {d : ByteArray} {l : List Fil} {i : Nat} (h : i < l.length) : filt d (l.drop i) = if (underB d l[i].1).2 = true then l[i] :: filt d (l.drop (i + 1)) else filt d (l.drop (i + 1)) := by
  rw [List.drop_eq_getElem_cons h]
  unfold filt
  rw [List.filter_cons]
theorem filt_len (d : ByteArray) (l : List Fil) : (filt d l).length ≤ l.length := List.length_filter_le _ _
theorem under_dir {d p : ByteArray} {x : Fil} (hx : goodB x.1 = true) (hp1 : some1 p = true) (hp2 : (47 : UInt8) ∉ p.data.toList) (u : (underB (jn d p) x.1).2 = true) : hdP d x = p ∧ hdP d x ≠ (underB d x.1).1 := by
  obtain ⟨u1, u2⟩ := under_head hx hp1 hp2 u
  refine ⟨u2, fun e => ?_⟩
  have hs := good_some hx
  have h1 := under_parts hs u
  have h2 := under_parts hs u1
  obtain ⟨r, hr, hre⟩ := partH_head (under_some hs u1)
  have h3 := hre.2 e
  rw [h3] at hr
  rw [hr, show partH (underB d x.1).1 = p from u2] at h2
  rw [jn_parts (d := d) hp1 hp2, h2, List.append_assoc] at h1
  have h4 := List.append_cancel_left h1
  have h5 := split_ne (under_some hs u)
  have h6 := congrArg List.length h4
  simp only [List.length_append, List.length_cons, List.length_nil] at h6
  exact h5 (List.eq_nil_of_length_eq_zero (by omega))
theorem RSt.setRow {T : Nat → Prop} {b : Nat} {L A : List Obj8} {w : World} (h : RSt T b L A w) {g : Nat} (hg : ∀ q, T q → q ≠ g) (R : Array Value) : RSt T b L A (w.setRow g R) :=
  h.keep (T2 := fun q => q = g) ⟨rfl, rfl, rfl, by simp [World.setRow], fun q hq hn => setRow_other _ _ _ _ hn⟩ (fun q hq he => hg q hq he)
theorem wp_pure {ops : Array Oper} {rest : List Oper} {o : Oper} {a : Act} {w : World} {Q : Exit → Act → World → Prop} (hg : o.guard = none) (x : Operand) (u : Value) (hx : a.eval x = u) (v : Value) (h : ∀ ρ : Operand → Value, ρ x = u → (execOp ρ o).run Tryz.prog w = .ok (.value v) w) (hK : wpList Tryz.prog ops Q rest (a.put o.dst v) w) : wpList Tryz.prog ops Q (o :: rest) a w :=
  wp_run hg (h a.eval hx) hK
theorem slice_two99 (w : World) (a b : ByteArray) : (Instr.buildSlice 99 2 #[(0, .string a), (1, .string b)]).run Tryz.prog w = .ok (.slice (some ⟨w.heap.size, 0, none⟩) 2 2) (w.alloc (.cells #[.string a, .string b] 9)) := by
  obtain ⟨i0, hi, hz0, hz1, hz2⟩ := info_parts Tryz.info9
  refine run_buildSlice w 99 9 2 _ _ i0 _ Tryz.underlying99 hi hz0 (by rw [hz1]; decide) (by rw [hz1]; decide) ?_
  rw [hz1]
  simp [Instr.fill, Value.cells]
  refine Array.ext (by simp) (fun i h1 h2 => ?_)
  simp at h2
  match i, h2 with
  | 0, _ => simp
  | 1, _ => simp
set_option maxRecDepth 100000 in
set_option maxHeartbeats 12000000 in
theorem below52_any : ∀ (N : Nat) {T : Nat → Prop} {b : Nat} {L A : List Obj8} (d : ByteArray) (l : List Fil) (v : Value) {w : World} (h : RSt T b L A w) (hv : LatK T w v l) (hs : SortedF l) (ha : Apart l) (hN : (filt d l).length + (17 - (splitL d).length) ≤ N) (hl : l.length ≤ 60) (hd : d.size ≤ 200 * (splitL d).length) (hdp : (splitL d).length ≤ 16) (hz : ∀ x ∈ l, x.2.1.size ≤ 4096) (hcL : L.length + 2000 * (17 - (splitL d).length) ≤ 65536) (hcA : A.length + 2000 * (17 - (splitL d).length) ≤ 65536),
    Calls Tryz.prog 52 #[.pointer (some ⟨b, 0, none⟩), .string d, v] w (BlwEnd T b L A N d (filt d l) w) := by
  intro N
  induction N using Nat.strongRecOn with
  | ind N ih =>
    intro T b L A d l v w h hv hs ha hN hl hd hdp hz hcL hcA
    have hT := h.lt
    have hb0 : (w.alloc (.cells #[.int .u8 0, .int .u8 0, .int .u8 0, .int .u8 0, .int .u8 0, .int .u8 0, .int .u8 0, .int .u8 0, .int .u8 0, .int .u8 0, .int .u8 0, .int .u8 0, .int .u8 0, .int .u8 0, .int .u8 0, .int .u8 0, .int .u8 0, .int .u8 0, .int .u8 0, .int .u8 0, .int .u8 0, .int .u8 0, .int .u8 0, .int .u8 0, .int .u8 0, .int .u8 0, .int .u8 0, .int .u8 0, .int .u8 0, .int .u8 0, .int .u8 0, .int .u8 0] 32)).heap.size = w.heap.size + 1 := by simp
    have hB0 := (Below.refl w.heap.size w).alloc (Nat.le_refl _) (.cells #[.int .u8 0, .int .u8 0, .int .u8 0, .int .u8 0, .int .u8 0, .int .u8 0, .int .u8 0, .int .u8 0, .int .u8 0, .int .u8 0, .int .u8 0, .int .u8 0, .int .u8 0, .int .u8 0, .int .u8 0, .int .u8 0, .int .u8 0, .int .u8 0, .int .u8 0, .int .u8 0, .int .u8 0, .int .u8 0, .int .u8 0, .int .u8 0, .int .u8 0, .int .u8 0, .int .u8 0, .int .u8 0, .int .u8 0, .int .u8 0, .int .u8 0, .int .u8 0] 32)
    have hnew := heap_alloc_new w (.cells #[.int .u8 0, .int .u8 0, .int .u8 0, .int .u8 0, .int .u8 0, .int .u8 0, .int .u8 0, .int .u8 0, .int .u8 0, .int .u8 0, .int .u8 0, .int .u8 0, .int .u8 0, .int .u8 0, .int .u8 0, .int .u8 0, .int .u8 0, .int .u8 0, .int .u8 0, .int .u8 0, .int .u8 0, .int .u8 0, .int .u8 0, .int .u8 0, .int .u8 0, .int .u8 0, .int .u8 0, .int .u8 0, .int .u8 0, .int .u8 0, .int .u8 0, .int .u8 0] 32)
    have HKp0 := Lib.hid (Kp.of_below (T := T) hB0)
    have HT := Lib.hid hT
    have HV1 := Lib.hid ((hv.old (B := (w.alloc (.cells #[.int .u8 0, .int .u8 0, .int .u8 0, .int .u8 0, .int .u8 0, .int .u8 0, .int .u8 0, .int .u8 0, .int .u8 0, .int .u8 0, .int .u8 0, .int .u8 0, .int .u8 0, .int .u8 0, .int .u8 0, .int .u8 0, .int .u8 0, .int .u8 0, .int .u8 0, .int .u8 0, .int .u8 0, .int .u8 0, .int .u8 0, .int .u8 0, .int .u8 0, .int .u8 0, .int .u8 0, .int .u8 0, .int .u8 0, .int .u8 0, .int .u8 0, .int .u8 0] 32)).heap.size) (by omega)).kp (Kp.of_below hB0))
    have HL := Lib.hid (filt_low (d := d) hs ha)
    have Hg := Lib.hid ha.1
    have Hs := Lib.hid hs
    have Ha := Lib.hid ha
    have Hz := Lib.hid hz
    have Hih := Lib.hid ih
    have Hd := Lib.hid hd
    have HcL := Lib.hid hcL
    have HcA := Lib.hid hcA
    have Hnew := Lib.hid hnew
    have hF := filt_len d l
    have HSt := Lib.hid (show WAt T b L A N d l (w.alloc (.cells #[.int .u8 0, .int .u8 0, .int .u8 0, .int .u8 0, .int .u8 0, .int .u8 0, .int .u8 0, .int .u8 0, .int .u8 0, .int .u8 0, .int .u8 0, .int .u8 0, .int .u8 0, .int .u8 0, .int .u8 0, .int .u8 0, .int .u8 0, .int .u8 0, .int .u8 0, .int .u8 0, .int .u8 0, .int .u8 0, .int .u8 0, .int .u8 0, .int .u8 0, .int .u8 0, .int .u8 0, .int .u8 0, .int .u8 0, .int .u8 0, .int .u8 0, .int .u8 0] 32)) l.length (.slice none 0 0) (.string ⟨#[]⟩) (.int .i64 0) (w.alloc (.cells #[.int .u8 0, .int .u8 0, .int .u8 0, .int .u8 0, .int .u8 0, .int .u8 0, .int .u8 0, .int .u8 0, .int .u8 0, .int .u8 0, .int .u8 0, .int .u8 0, .int .u8 0, .int .u8 0, .int .u8 0, .int .u8 0, .int .u8 0, .int .u8 0, .int .u8 0, .int .u8 0, .int .u8 0, .int .u8 0, .int .u8 0, .int .u8 0, .int .u8 0, .int .u8 0, .int .u8 0, .int .u8 0, .int .u8 0, .int .u8 0, .int .u8 0, .int .u8 0] 32)) from
      ⟨0, N, [], [], filt d l, [], [], ⟨#[]⟩, T, L, A, by omega, rfl, rfl, rfl, rfl, Nat.le_refl _, hN, rfl, rfl, by simp, by simp, by simp, .inl rfl, ⟨rfl, .inl ⟨rfl, rfl⟩⟩, h.below hB0, fun q hq => .inl hq, fun q hq => (by cases hq), Kp.refl _ _, Inn.refl _ _⟩)
    obtain ⟨p, n, c, rfl, hn⟩ := hv.shape
    have Hn := Lib.hid hn
    rw [← hn] at HSt
    have hn60 : n ≤ 60 := by omega
    clear h hv hs ha hz ih hd hcL hcA hT hnew hB0 hn hN
    go_enter Tryz.func52, Tryz.ntmps52
    go_wp2_with fail
    generalize w.alloc (.cells #[.int .u8 0, .int .u8 0, .int .u8 0, .int .u8 0, .int .u8 0, .int .u8 0, .int .u8 0, .int .u8 0, .int .u8 0, .int .u8 0, .int .u8 0, .int .u8 0, .int .u8 0, .int .u8 0, .int .u8 0, .int .u8 0, .int .u8 0, .int .u8 0, .int .u8 0, .int .u8 0, .int .u8 0, .int .u8 0, .int .u8 0, .int .u8 0, .int .u8 0, .int .u8 0, .int .u8 0, .int .u8 0, .int .u8 0, .int .u8 0, .int .u8 0, .int .u8 0] 32) = w1 at *
    have Hb0 := Lib.hid hb0
    clear hb0
    go_loopg [7, 8, 16] n (fun g ev lv iv wr => WAt T b L A N d l w1 g ev lv iv wr)
    case atStart => exact HSt.out
    case round =>
      clear HSt
      obtain ⟨i, m, Q, Zz, S, E, Sx, la, T2, L2, A2, hig, rfl, rfl, hQ, hD, hmN, hm, hE, hSx, hqs, hzz, hze, hel, hev, hR, hT2, hevT, hKp, hI⟩ := hrel.x
      clear hrel
      have hEl : E.length ≤ 60 := by
        have h1 := (bld_names N d _ HL.out).2.2
        rw [hE, List.length_append] at h1
        omega
      have Hev := Lib.hid hev
      have HR := Lib.hid hR
      have HT2 := Lib.hid hT2
      have HevT := Lib.hid hevT
      have HKp := Lib.hid hKp
      have HI := Lib.hid hI
      have HE := Lib.hid hE
      have HSx := Lib.hid hSx
      have HQ := Lib.hid hQ
      have HD := Lib.hid hD
      have Hqs := Lib.hid hqs
      have Hzz := Lib.hid hzz
      have Hze := Lib.hid hze
      have Hel := Lib.hid hel
      have Hm := Lib.hid hm
      have HmN := Lib.hid hmN
      have Hig := Lib.hid hig
      have Hsz := Lib.hid hKp.size
      have Hres := Lib.hid ((hKp.block w.heap.size (by have := Hb0.out; omega) (fun hq => by
        rcases hq with hq | hq
        · have := HT.out _ hq; omega
        · have := Hb0.out; omega)).trans Hnew.out)
      have Hlat := Lib.hid (HV1.out.kp hKp)
      have Hcnt := Lib.hid (show Q.length + Sx.length ≤ 1100 ∧ L2.length + 2000 * (16 - (splitL d).length) ≤ 65536 - 900 ∧ A2.length + 2000 * (16 - (splitL d).length) ≤ 65536 - 900 by
        have h1 := congrArg List.length hQ
        have h2 := congrArg List.length hSx
        have h3 := blds_len N d _ HL.out
        have h4 : (filt d l).length * (16 - (splitL d).length) ≤ 60 * 16 := Nat.mul_le_mul (by omega) (by omega)
        rw [List.length_append] at h1 h2
        have h5 := hI.l
        have h6 := hI.a
        have h7 := HcL.out
        have h8 := HcA.out
        refine ⟨by omega, ?_, ?_⟩ <;> omega)
      clear hev hR hT2 hevT hKp hI hE hSx hQ hD hqs hzz hze hel hm hmN
      by_cases hlt : i < n
      · have hltI : (i : Int) < (n : Int) := by omega
        have hil : i < l.length := by have := Hn.out; omega
        obtain ⟨g1, o1, rfl, hg1, hlc, hlm, hrange⟩ := lat_at Hlat.out.1 (by omega)
        obtain ⟨f, hf⟩ : ∃ f, f = l[i] := ⟨_, rfl⟩
        have hrg := hrange i hil
        rw [← hf] at hrg
        have hfl : f ∈ l := by rw [hf]; exact List.getElem_mem hil
        have hfn := filt_next (d := d) hil
        rw [← hf] at hfn
        have Hrg := Lib.hid hrg
        have gf := Hg.out f hfl
        have Hgf := Lib.hid gf
        have hps := good_size gf
        have hds := Hz.out f hfl
        have hlcL : n ≤ c := by have := Hn.out; omega
        have hl2 : (filV f).length = 2 := filV_len f
        have Hone := Lib.hid (one_row (filV_one f))
        have hi0 : (Tryz.prog.info? 44).map (·.size) = some 2 := by kernel_rfl
        have Hi1 := Lib.hid (show (Tryz.prog.info? 44).map (·.size) = some (filV f).length by rw [hi0, hl2])
        have Hi2 := Lib.hid (show (Tryz.prog.info? 44).map (·.size) = some ((filV f).toArray).size by rw [hi0, List.size_toArray, hl2])
        have Hsz2 := Lib.hid (show 2 = ((filV f).toArray).size by rw [List.size_toArray, hl2])
        have Hbx := Lib.hid (fun old => boxL_made wr old 44 (filV f))
        have Hfn := Lib.hid hfn
        have Hf := Lib.hid hf
        clear hrange hrg hfn hf hl2 hi0 hig gf
        go_upto_region 6 with (first | (refine wpList_load_mid rfl 44 (.tmp 18) rfl g1 (o1 + i * 2) rfl (filV f) _ Hrg.out Tryz.underlying44 rfl Hi1.out ?_) | (refine wpList_store_rowTo rfl 44 (.tmp 10) (.tmp 19) rfl rfl wr.heap.size (filV f).toArray rfl rfl 44 _ (heap_alloc_new wr _) Hi2.out (by rw [← Hsz2.out]; rfl) Hone.out ?_))
        refine box_abs (Hbx.out _) ?_
        intro w8 hbx8
        have kx0 := hbx8.r 0 (.string f.1) rfl
        have kx1 := hbx8.r 1 (.string f.2.1) rfl
        have HB8 := Lib.hid hbx8.b
        clear hbx8 Hbx Hrg Hone Hi1 Hi2 Hsz2
        have hdz : d.size ≤ 1073741824 := by have := Hd.out; omega
        have HU := Lib.hid (fun w1 => refUnder_any d f.1 w1 hdz (by omega))
        unfold Under2 at HU
        obtain ⟨way, hway⟩ : ∃ y, y = (underB d f.1).1 := ⟨_, rfl⟩
        obtain ⟨ub, hub⟩ : ∃ y, y = (underB d f.1).2 := ⟨_, rfl⟩
        rw [← hway, ← hub] at HU
        rw [← hub] at Hfn
        have Hway := Lib.hid hway
        have Hub := Lib.hid hub
        obtain ⟨z, hzf⟩ : ∃ y, y = f.1 := ⟨_, rfl⟩
        obtain ⟨dt, hdt⟩ : ∃ y, y = f.2.1 := ⟨_, rfl⟩
        rw [← hzf] at kx0 HU hps
        rw [← hdt] at kx1 hds
        have Hzf := Lib.hid hzf
        have Hdt := Lib.hid hdt
        clear hway hub hzf hdt
        go_wp2_with fail
        refine (HU.out _).mono ?_
        rintro e w2 ⟨rfl, hw2⟩
        subst hw2
        cases hub : ub with
        | false =>
          have HD2 := Lib.hid (show filt d (l.drop (i + 1)) = Zz ++ S by
            have h1 := Hfn.out
            rw [hub, if_neg (by decide)] at h1
            rw [← h1]; exact HD.out)
          clear hub
          go_wp2_with fail
          go_roundg (gk - 1)
          case measure => have := Hig.out; have := Hn.out; omega
          case rel =>
            have hig := Hig.out
            exact ⟨i + 1, m, Q, Zz, S, E, Sx, la, T2, L2, A2, by omega, by go_num, rfl, HQ.out, HD2.out, HmN.out, Hm.out, HE.out, HSx.out, Hqs.out, Hzz.out, Hze.out, Hel.out, gen_own_below Hev.out HB8.out, HR.out.below HB8.out, HT2.out, HevT.out, HKp.out.trans (Kp.of_below HB8.out), HI.out⟩
        | true =>
          rw [hub, if_pos rfl] at Hfn
          have uf : (underB d f.1).2 = true := by rw [← Hub.out]; exact hub
          have Huf := Lib.hid uf
          have hws := under_some (good_some Hgf.out) uf
          have hwz := under_size (good_some Hgf.out) uf
          have hbh := below_head (d := d) Hgf.out uf
          have hpz : (partH (underB d f.1).1).size ≤ 128 := name_size (name_hdP Hgf.out uf)
          have hdp2 := low_depth Hgf.out uf
          rw [← Hway.out] at hws hwz hbh hpz
          have hwz2 : way.size ≤ 1073741824 := by have := good_size Hgf.out; omega
          have HP5 := Lib.hid (parts_own way w8 hwz2)
          have hcs : cutB 47 way = splitL way := by unfold splitL; rw [hws]; rfl
          rw [hcs] at HP5
          have Hws := Lib.hid hws
          have Hbh := Lib.hid hbh
          clear hub uf hcs hws hwz hbh
          go_wp2_with fail
          refine HP5.out.mono ?_
          rintro e w9 ⟨vv, rfl, hown, hB⟩
          obtain ⟨g2, n2, c2, rfl, h20, h2c, h2m, hc2⟩ := split_first Hws.out hown
          obtain ⟨part, hpart⟩ : ∃ y, y = partH way := ⟨_, rfl⟩
          rw [← hpart] at hc2 hpz Hbh
          have Hpart := Lib.hid (show part = hdP d f by rw [hpart, Hway.out]; rfl)
          have HB9 := Lib.hid (HB8.out.trans (hB.mono HB8.out.size))
          have kx1' := (hB.cell (p := ⟨wr.heap.size, 1, none⟩) (by have := World.block_lt_of_cell? w8 _ kx1; exact this)).trans kx1
          clear hpart hown hB HB8 kx0 kx1 HP5 HU
          have Hev9 := Lib.hid (gen_own_below Hev.out HB9.out)
          have HR9 := Lib.hid (HR.out.below HB9.out)
          have HK9 := Lib.hid (HKp.out.trans (Kp.of_below HB9.out))
          clear Hev HR HKp
          cases hZ : Zz with
          | cons z1 Z' =>
            have hfe := Hfn.out.symm.trans HD.out
            rw [hZ, List.cons_append] at hfe
            injection hfe with hf1 hf2
            subst hf1
            have hz1 := Hzz.out f (by rw [hZ]; exact List.mem_cons_self)
            obtain ⟨E0, e0, hE0, he1, he2⟩ := Hze.out (by rw [hZ]; exact List.cons_ne_nil _ _)
            have hpl : part = la := by rw [Hpart.out]; exact hz1.1
            have hpw : part ≠ way := by rw [Hpart.out, Hway.out]; exact hz1.2
            have hq : (part.toList == way.toList) = false := beq_of_ne hpw
            have HD2 := Lib.hid (show filt d (l.drop (i + 1)) = Z' ++ S from hf2)
            have Hzz2 := Lib.hid (fun z (hz : z ∈ Z') => Hzz.out z (by rw [hZ]; exact List.mem_cons_of_mem _ hz))
            have Hze2 := Lib.hid (show Z' ≠ [] → ∃ E0 e0, E = E0 ++ [e0] ∧ e0.1 = la ∧ e0.2.1 = true from fun _ => ⟨E0, e0, hE0, he1, he2⟩)
            have hids : ∀ x ∈ E, x.2.2.1.length = 32 := fun x hx => bld_ids N d (filt d l) x (by rw [HE.out]; exact List.mem_append_left _ hx)
            obtain ⟨ep, ec, hevs⟩ := own_slice2 Hev9.out
            have hen : E.length = E0.length + 1 := by rw [hE0]; simp
            have hat := LAt.own (e := 58) (fun x hx => entV_len (hids x hx)) Hev9.out
            rw [hevs] at hat
            obtain ⟨ge, oe, rfl, hge, hec, hem, hcell⟩ := lat_at hat (by omega)
            have hr := hcell E0.length (by omega)
            have hEg : E[E0.length]'(by omega) = e0 := by simp [hE0]
            rw [hEg] at hr
            have kc0 := hr 0 (.string e0.1) rfl
            have kc1 := hr 1 (.bool e0.2.1) rfl
            rw [he1, Nat.add_zero] at kc0
            rw [he2] at kc1
            rw [hen] at hevs hec
            obtain ⟨ne, hne⟩ : ∃ ne, ne = E0.length := ⟨_, rfl⟩
            rw [← hne] at kc0 kc1 hevs hec
            subst hevs
            have hne60 : ne ≤ 60 := by omega
            have hq2 : (la.toList == la.toList) = true := by simp
            rw [hpl] at hq hc2
            clear hpl hpw hz1 hZ hcell hr hat hEg he1 he2 hE0 hne hen hids hf2 Hbh hpz
            go_wp2_with fail
            go_roundg (gk - 1)
            case measure => have := Hig.out; have := Hn.out; omega
            case rel =>
              have hig := Hig.out
              exact ⟨i + 1, m, Q, Z', S, E, Sx, la, T2, L2, A2, by omega, by go_num, rfl, HQ.out, HD2.out, HmN.out, Hm.out, HE.out, HSx.out, Hqs.out, Hzz2.out, Hze2.out, Hel.out, Hev9.out, HR9.out, HT2.out, HevT.out, HK9.out, HI.out⟩
          | nil =>
            have hS := HD.out.symm.trans Hfn.out
            rw [hZ, List.nil_append] at hS
            obtain ⟨r, hr⟩ : ∃ r, r = filt d (l.drop (i + 1)) := ⟨_, rfl⟩
            rw [← hr] at hS
            have Hr := Lib.hid hr
            subst hS
            have hprev : part = la → E = [] := fun e => by
              rcases Hel.out with h1 | ⟨x, hx, h1⟩
              · exact h1
              · have h2 := Hqs.out x hx f List.mem_cons_self
                rw [← Hpart.out, ← h1, e, bl_so.irr] at h2
                cases h2
            have Hprev := Lib.hid hprev
            have HLo := Lib.hid (show Low d (f :: r) by
              have h1 := HL.out.drop Q.length
              rw [HQ.out] at h1
              simpa using h1)
            have hm0 := Hm.out
            simp only [List.length_cons] at hm0
            obtain ⟨m', rfl⟩ : ∃ m', m = m' + 1 := ⟨m - 1, by omega⟩
            clear hr hZ Hzz Hze HD hm0
            by_cases hpw : part = way
            · have hq : (part.toList == way.toList) = true := beq_of hpw
              have HE3 := Lib.hid (show bldE N d (filt d l) = (E ++ [(part, false, kid ⟨#[98, 108, 111, 98]⟩ dt, ())]) ++ bldE m' d r by
                rw [HE.out, bldE, if_pos (by rw [← Hway.out]; rw [Hpart.out] at hpw; rw [Hway.out] at hpw ⊢; exact hpw), Hpart.out, Hdt.out]
                simp [hdP, kid_bid, blobK]
                rfl)
              have HS3 := Lib.hid (show bldS N d (filt d l) = Sx ++ bldS m' d r by
                rw [HSx.out, bldS, if_pos (by rw [← Hway.out]; rw [Hpart.out] at hpw; rw [Hway.out] at hpw ⊢; exact hpw)])
              have hgt := gt_file HLo.out (by rw [← Hpart.out, ← Hway.out]; exact hpw)
              have Hgt := Lib.hid hgt
              have HPB := Lib.hid (put19_any HR9.out ⟨#[98, 108, 111, 98]⟩ dt (by decide) (by omega) (by have := Hcnt.out; omega) (by have := Hcnt.out; omega))
              clear hgt hprev
              subst hpw
              go_upto_region 10 with fail
              refine wp_region_lit ?_
              refine wp_move rfl (.tmp 7) rfl u7 rfl ?_
              simp only [Act.put, List.setIfInBounds_toArray, List.set_cons_succ, List.set_cons_zero]
              refine wp_move rfl (.tmp 13) rfl (.string part) rfl ?_
              simp only [Act.put, List.setIfInBounds_toArray, List.set_cons_succ, List.set_cons_zero]
              refine wp_move rfl (.tmp 0) rfl (.pointer (some ⟨b, 0, none⟩)) rfl ?_
              simp only [Act.put, List.setIfInBounds_toArray, List.set_cons_succ, List.set_cons_zero]
              refine wp_pure rfl (.tmp 10) (.pointer (some ⟨wr.heap.size, 0, none⟩)) rfl (.pointer (some ⟨wr.heap.size, 1, none⟩)) (fun ρ h => by simp [execOp, h, go_sem]) ?_
              simp only [Act.put, List.setIfInBounds_toArray, List.set_cons_succ, List.set_cons_zero]
              refine wp_pure rfl (.tmp 39) (.pointer (some ⟨wr.heap.size, 1, none⟩)) rfl (.string dt) (fun ρ h => by simp [execOp, h, go_sem, kx1']) ?_
              simp only [Act.put, List.setIfInBounds_toArray, List.set_cons_succ, List.set_cons_zero]
              refine wp_call rfl 19 #[.tmp 38, .const (.string ⟨#[98, 108, 111, 98]⟩), .tmp 40] #[49, 9, 9] rfl #[.pointer (some ⟨b, 0, none⟩), .string ⟨#[98, 108, 111, 98]⟩, .string dt] (enters_of Tryz.func19 (by kernel_rfl) rfl) (by simp only [List.map_toArray, List.map_cons, List.map_nil]; rfl) (φ := fun v5 w5 => PutEnd T2 b L2 A2 ⟨#[98, 108, 111, 98]⟩ dt w9 (.returned v5) w5) (HPB.out.mono (fun e w5 h5 => by obtain ⟨h6, h7⟩ := h5; exact ⟨_, h6, ⟨rfl, h7⟩⟩)) ?_
              rintro v5 w5 ⟨hv5, T3, hT3, hR3, hK3⟩
              injection hv5 with hv5
              obtain ⟨idv, hidv⟩ : ∃ y, y = kid ⟨#[98, 108, 111, 98]⟩ dt := ⟨_, rfl⟩
              have Hil := Lib.hid (show idv.length = 32 by rw [hidv]; exact kid_len _ _)
              rw [← hidv] at hv5 HE3
              have Hidv := Lib.hid hidv
              subst hv5
              simp only [Act.put, List.setIfInBounds_toArray, List.set_cons_succ, List.set_cons_zero]
              refine wp_build rfl rfl (ps := #[(0, .string part), (2, .agg (bytV idv).toArray)]) (by simp only [List.map_toArray, List.map_cons, List.map_nil]; rfl) (build_ent2 w5 part idv Hil.out) ?_
              simp only [Act.put, List.setIfInBounds_toArray, List.set_cons_succ, List.set_cons_zero]
              refine wp_bslice rfl rfl (ps := #[(0, .agg (entV (part, false, idv, ())).toArray)]) (by simp only [List.map_toArray, List.map_cons, List.map_nil]; rfl) (slice_one eltE w5 (part, false, idv, ()) (entV_len Hil.out) (by decide)) ?_
              simp only [Act.put, List.setIfInBounds_toArray, List.set_cons_succ, List.set_cons_zero]
              have hB6 := (Below.refl w5.heap.size w5).alloc (Nat.le_refl _) (.cells (entV (part, false, idv, ())).toArray 58)
              have hG6 := heap_alloc_new w5 (.cells (entV (part, false, idv, ())).toArray 58)
              have hev5 := own_keep Hev9.out hK3 HevT.out
              refine wp_append_ent rfl (.tmp 36) (.tmp 43) rfl rfl w1.heap.size u7 E rfl (gen_own_below hev5 hB6) w5.heap.size (part, false, idv, ()) rfl hG6 Hil.out (by omega) (by have := hB6.size; have := hK3.size; have := HK9.out.size; omega) ?_
              intro v7 w7 hown7 hgr7 hwhere7
              simp only [Act.put, List.setIfInBounds_toArray, List.set_cons_succ, List.set_cons_zero]
              have hkg7 : Kp (fun q => u7.ownBlock = some q) w5 w7 := (Kp.of_below hB6).trans (Kp.grown hgr7 (fun q hq => hq))
              have hge := fun q (hq : u7.ownBlock = some q) => own_lt hev5 hq
              have hT3e : ∀ q, T3 q → ¬ u7.ownBlock = some q := fun q hq he => by
                rcases hT3 q hq with h9 | h9
                · exact HevT.out q he h9
                · have := (own_lt Hev9.out he).2; omega
              have HR7 := Lib.hid (hR3.keep hkg7 hT3e)
              have HT7 := Lib.hid (show ∀ q, T3 q → T q ∨ w1.heap.size ≤ q from fun q hq => by
                rcases hT3 q hq with h9 | h9
                · exact HT2.out q h9
                · right; have := HK9.out.size; omega)
              have HevT7 := Lib.hid (show ∀ q, v7.ownBlock = some q → ¬ T3 q from fun q hq ht => by
                rcases hwhere7 with h9 | h9
                · rw [h9] at hq; exact hT3e q ht hq
                · rw [h9] at hq
                  injection hq with hq
                  have := hR3.lt q ht
                  simp at hq
                  omega)
              have HK7 := Lib.hid ((HK9.out.trans ((hK3.mono (T2 := fun q => T q ∨ w1.heap.size ≤ q) HT2.out).trans (hkg7.mono (fun q hq => .inr (hge q hq).1)))))
              have HI7 := Lib.hid (HI.out.trans (Inn.blob L2 A2 f))
              have Hown7 := Lib.hid hown7
              have hR3' := hR3
              have Hpp := Lib.hid (show putL L2 (⟨#[98, 108, 111, 98]⟩, kid ⟨#[98, 108, 111, 98]⟩ dt, dt, ()) = putL L2 (obB f.2.1) ∧ A2 ++ [(⟨#[98, 108, 111, 98]⟩, kid ⟨#[98, 108, 111, 98]⟩ dt, dt, ())] = A2 ++ [obB f.2.1] by rw [Hdt.out]; exact ⟨rfl, rfl⟩)
              rw [Hpp.out.1, Hpp.out.2] at HR7
              clear hB6 hG6 hev5 hown7 hgr7 hwhere7 hkg7 hge hT3e hR3 hR3' hK3 hT3 hidv Hpp
              generalize w5.alloc (.cells (entV (part, false, idv, ())).toArray 58) = w5a at *
              go_wp2_with fail
              go_roundg (gk - 1)
              case measure => have := Hig.out; have := Hn.out; omega
              case rel =>
                have hig := Hig.out
                have hm := Hm.out
                simp only [List.length_cons] at hm
                refine ⟨i + 1, m', Q ++ [f], [], r, E ++ [(part, false, idv, ())], Sx, part, T3, _, _, by omega, by go_num, rfl, by rw [HQ.out]; simp, by rw [← Hr.out]; rfl, by have := HmN.out; omega, by omega, HE3.out, HS3.out, ?_, by simp, by simp, .inr ⟨f, by simp, Hpart.out⟩, Hown7.out, HR7.out, HT7.out, HevT7.out, HK7.out, by simpa using HI7.out⟩
                intro x hx y hy
                rcases List.mem_append.1 hx with hx | hx
                · exact Hqs.out x hx y (List.mem_cons_of_mem _ hy)
                · rw [List.mem_singleton.1 hx]; exact Hgt.out y hy
            · obtain ⟨b1, b2, b3⟩ := Hbh.out hpw
              have hq : (part.toList == way.toList) = false := beq_of_ne hpw
              obtain ⟨sub, hsub⟩ : ∃ y, y = jn d part := ⟨_, rfl⟩
              have hjl : (splitL sub).length = (splitL d).length + 1 := by rw [hsub, jn_parts (d := d) b1 b2]; simp
              have hjz := jn_size d part
              rw [← hsub] at hjz b3
              have hpd := Hpart.out
              have hwd : hdP d f ≠ (underB d f.1).1 := by rw [← hpd, ← Hway.out]; exact hpw
              have hft : filt sub l = (f :: r).take (belowN sub (f :: r)) := by
                rw [hsub, hpd]; exact filt_take HQ.out (by rw [← HQ.out]; exact HL.out) hwd (fun x hx => Hqs.out x hx f List.mem_cons_self) Hg.out
              have hpos := belowN_pos (d := sub) (f := f) (r := r) b3
              have hble := belowN_le sub (f :: r)
              have hgt : ∀ y ∈ (f :: r).drop (belowN sub (f :: r)), bl (hdP d f) (hdP d y) = true := by rw [hsub, hpd]; exact gt_dir HLo.out hwd
              have hall : ∀ x ∈ (f :: r).take (belowN sub (f :: r)), hdP d x = part ∧ hdP d x ≠ (underB d x.1).1 := fun x hx => by
                have h1 := belowN_all x hx
                rw [hsub] at h1
                exact under_dir (HLo.out.a.1 x (List.mem_of_mem_take hx)) b1 b2 h1
              have hp1 : partH (underB d f.1).1 = part := hpd.symm
              have hwd2 : ¬ partH (underB d f.1).1 = (underB d f.1).1 := hwd
              have hE3 : bldE N d (filt d l) = (E ++ [(part, true, tid (treeB (bldE m' sub (filt sub l))), ())]) ++ bldE m' d ((f :: r).drop (belowN sub (f :: r))) := by
                rw [HE.out, bldE, if_neg hwd2, hp1, ← hsub, ← hft, List.append_assoc]; rfl
              have hS3 : bldS N d (filt d l) = (Sx ++ bldT m' sub (filt sub l)) ++ bldS m' d ((f :: r).drop (belowN sub (f :: r))) := by
                rw [HSx.out, bldS, if_neg hwd2, hp1, ← hsub, ← hft]; unfold bldT; simp
              obtain ⟨kk, hkk⟩ : ∃ kk, belowN sub (f :: r) = kk + 1 := ⟨belowN sub (f :: r) - 1, by omega⟩
              rw [hkk] at hft hgt hall hE3 hS3 hble
              rw [List.drop_succ_cons] at hgt hE3 hS3
              rw [List.take_succ_cons] at hft hall
              simp only [List.length_cons] at hble
              have Hft := Lib.hid hft
              have Hgt := Lib.hid hgt
              have Hall := Lib.hid hall
              have HE3 := Lib.hid hE3
              have HS3 := Lib.hid hS3
              have Hjl := Lib.hid hjl
              have hjz2 : sub.size ≤ 200 * (splitL sub).length := by have := Hd.out; omega
              have Hjz := Lib.hid hjz2
              have hd9 : d.size ≤ 1000000000 := by have := Hd.out; omega
              have HJ := Lib.hid (refJn_any d part w9.heap.size 2 (w9.alloc (.cells #[.string d, .string part] 9)) hd9 (by omega) (heap_alloc_new _ _))
              rw [← hsub] at HJ
              have hBa := (Below.refl w9.heap.size w9).alloc (Nat.le_refl _) (.cells #[.string d, .string part] 9)
              have HBa := Lib.hid hBa
              have hlat9 := (Hlat.out.kp (Kp.of_below HB9.out)).kp (Kp.of_below hBa)
              have HIH := Lib.hid (Hih.out m' (by have := HmN.out; omega) sub l (.slice (some ⟨g1, o1, none⟩) n c) (w := w9.alloc (.cells #[.string d, .string part] 9)) (HR9.out.below hBa) (hlat9.monoT HT2.out) Hs.out Ha.out
                (by have h1 := Hm.out; rw [hft, List.length_cons, List.length_take, hjl]; simp only [List.length_cons] at h1; omega) hl hjz2 (by omega) Hz.out (by have := Hcnt.out; rw [hjl]; omega) (by have := Hcnt.out; rw [hjl]; omega))
              have hnb : ¬ part = way := hpw
              clear b1 b2 b3 hjl hjz hwd hwd2 hft hpos hble hgt hall hp1 hE3 hS3 hkk hBa hlat9 hsub hpd Hbh hjz2
              by_cases hlp : part = la
              · have hE0 : E.length = 0 := by rw [Hprev.out hlp]; rfl
                obtain ⟨ep, ec, hevs⟩ := own_slice2 Hev9.out
                rw [hE0] at hevs
                subst hevs
                subst hlp
                have hq2 : (part.toList == part.toList) = true := by simp
                clear hnb
                go_upto_region 12 with fail
                refine wp_region_lit ?_
                refine wp_move rfl (.tmp 7) rfl (.slice ep 0 ec) rfl ?_
                simp only [Act.put, List.setIfInBounds_toArray, List.set_cons_succ, List.set_cons_zero]
                refine wp_move rfl (.tmp 13) rfl (.string part) rfl ?_
                simp only [Act.put, List.setIfInBounds_toArray, List.set_cons_succ, List.set_cons_zero]
                refine wp_move rfl (.tmp 0) rfl (.pointer (some ⟨b, 0, none⟩)) rfl ?_
                simp only [Act.put, List.setIfInBounds_toArray, List.set_cons_succ, List.set_cons_zero]
                refine wp_move rfl (.tmp 1) rfl (.string d) rfl ?_
                simp only [Act.put, List.setIfInBounds_toArray, List.set_cons_succ, List.set_cons_zero]
                refine wp_move rfl (.tmp 13) rfl (.string part) rfl ?_
                simp only [Act.put, List.setIfInBounds_toArray, List.set_cons_succ, List.set_cons_zero]
                refine wp_bslice rfl rfl (ps := #[(0, .string d), (1, .string part)]) (by simp only [List.map_toArray, List.map_cons, List.map_nil]; rfl) (slice_two99 w9 d part) ?_
                simp only [Act.put, List.setIfInBounds_toArray, List.set_cons_succ, List.set_cons_zero]
                generalize hwa : w9.alloc (.cells #[.string d, .string part] 9) = w9a at *
                refine wp_call rfl 73 #[.tmp 79] #[99] rfl #[.slice (some ⟨w9.heap.size, 0, none⟩) 2 2] (enters_of Tryz.func73 (by kernel_rfl) rfl) (by simp only [List.map_toArray, List.map_cons, List.map_nil]; rfl) (φ := fun v5 w5 => v5 = .string sub ∧ w9a = w5) (HJ.out.mono (fun e w5 h5 => by obtain ⟨h6, h7⟩ := h5; exact ⟨_, h6, rfl, h7⟩)) ?_
                rintro v4 w4 ⟨rfl, rfl⟩
                simp only [Act.put, List.setIfInBounds_toArray, List.set_cons_succ, List.set_cons_zero]
                refine wp_move rfl (.tmp 2) rfl (.slice (some ⟨g1, o1, none⟩) n c) rfl ?_
                simp only [Act.put, List.setIfInBounds_toArray, List.set_cons_succ, List.set_cons_zero]
                refine wp_call rfl 52 #[.tmp 76, .tmp 80, .tmp 81] #[49, 9, 22] rfl #[.pointer (some ⟨b, 0, none⟩), .string sub, .slice (some ⟨g1, o1, none⟩) n c] (enters_of Tryz.func52 (by kernel_rfl) rfl) (by simp only [List.map_toArray, List.map_cons, List.map_nil]; rfl) (φ := fun v5 w5 => BlwEnd T2 b L2 A2 m' sub (filt sub l) w9a (.returned v5) w5) (HIH.out.mono (fun e w5 h5 => by obtain ⟨h6, h7⟩ := h5; exact ⟨_, h6, ⟨rfl, h7⟩⟩)) ?_
                rintro v5 w5 ⟨hv5, T3, L3, A3, hT3, hR3, hI3, hK3⟩
                injection hv5 with hv5
                obtain ⟨idv, hidv⟩ : ∃ y, y = tid (treeB (bldE m' sub (filt sub l))) := ⟨_, rfl⟩
                have Hil := Lib.hid (show idv.length = 32 by rw [hidv]; exact tid_len _)
                rw [← hidv] at hv5 HE3
                subst hv5
                simp only [Act.put, List.setIfInBounds_toArray, List.set_cons_succ, List.set_cons_zero]
                refine wp_build rfl rfl (ps := #[(0, .string part), (1, .bool true), (2, .agg (bytV idv).toArray)]) (by simp only [List.map_toArray, List.map_cons, List.map_nil]; rfl) (build_ent w5 part true idv Hil.out) ?_
                simp only [Act.put, List.setIfInBounds_toArray, List.set_cons_succ, List.set_cons_zero]
                refine wp_bslice rfl rfl (ps := #[(0, .agg (entV (part, true, idv, ())).toArray)]) (by simp only [List.map_toArray, List.map_cons, List.map_nil]; rfl) (slice_one eltE w5 (part, true, idv, ()) (entV_len Hil.out) (by decide)) ?_
                simp only [Act.put, List.setIfInBounds_toArray, List.set_cons_succ, List.set_cons_zero]
                have hB6 := (Below.refl w5.heap.size w5).alloc (Nat.le_refl _) (.cells (entV (part, true, idv, ())).toArray 58)
                have hG6 := heap_alloc_new w5 (.cells (entV (part, true, idv, ())).toArray 58)
                have hevA := gen_own_below Hev9.out HBa.out
                have hev5 := own_keep hevA hK3 HevT.out
                refine wp_append_ent rfl (.tmp 74) (.tmp 84) rfl rfl w1.heap.size (.slice ep 0 ec) E rfl (gen_own_below hev5 hB6) w5.heap.size (part, true, idv, ()) rfl hG6 Hil.out (by omega) (by have := hB6.size; have := hK3.size; have := HK9.out.size; have := HBa.out.size; omega) ?_
                intro v7 w7 hown7 hgr7 hwhere7
                simp only [Act.put, List.setIfInBounds_toArray, List.set_cons_succ, List.set_cons_zero]
                have hkg7 : Kp (fun q => Value.ownBlock (.slice ep 0 ec) = some q) w5 w7 := (Kp.of_below hB6).trans (Kp.grown hgr7 (fun q hq => hq))
                have hge := fun q (hq : Value.ownBlock (.slice ep 0 ec) = some q) => own_lt hev5 hq
                have hT3e : ∀ q, T3 q → ¬ Value.ownBlock (.slice ep 0 ec) = some q := fun q hq he => by
                  rcases hT3 q hq with h9 | h9
                  · exact HevT.out q he h9
                  · have := (own_lt hevA he).2; omega
                have HR7 := Lib.hid (hR3.keep hkg7 hT3e)
                have HT7 := Lib.hid (show ∀ q, T3 q → T q ∨ w1.heap.size ≤ q from fun q hq => by
                  rcases hT3 q hq with h9 | h9
                  · exact HT2.out q h9
                  · right; have := HK9.out.size; have := HBa.out.size; omega)
                have HevT7 := Lib.hid (show ∀ q, v7.ownBlock = some q → ¬ T3 q from fun q hq ht => by
                  rcases hwhere7 with h9 | h9
                  · rw [h9] at hq; exact hT3e q ht hq
                  · rw [h9] at hq
                    injection hq with hq
                    have := hR3.lt q ht
                    simp at hq
                    omega)
                have HK7 := Lib.hid (((HK9.out.trans (Kp.of_below HBa.out)).trans ((hK3.mono (T2 := fun q => T q ∨ w1.heap.size ≤ q) HT2.out).trans (hkg7.mono (fun q hq => .inr (hge q hq).1)))))
                have HI7 := Lib.hid (HI.out.trans hI3)
                have Hown7 := Lib.hid hown7
                clear hB6 hG6 hev5 hevA hown7 hgr7 hwhere7 hkg7 hge hT3e hR3 hK3 hT3 hidv hI3
                generalize w5.alloc (.cells (entV (part, true, idv, ())).toArray 58) = w5a at *
                go_wp2_with fail
                go_roundg (gk - 1)
                case measure => have := Hig.out; have := Hn.out; omega
                case rel =>
                  have hig := Hig.out
                  have hm := Hm.out
                  simp only [List.length_cons] at hm
                  have hfm : f ∈ Q ++ filt sub l := List.mem_append_right _ (by rw [Hft.out]; exact List.mem_cons_self)
                  refine ⟨i + 1, m', Q ++ filt sub l, r.take kk, r.drop kk, E ++ [(part, true, idv, ())], Sx ++ bldT m' sub (filt sub l), part, T3, L3, A3, by omega, by go_num, rfl, by rw [HQ.out, Hft.out]; simp, by rw [← Hr.out, List.take_append_drop], by have := HmN.out; omega, by rw [List.length_drop]; omega, HE3.out, HS3.out, ?_, fun z hz => Hall.out z (List.mem_cons_of_mem _ hz), fun _ => ⟨E, (part, true, idv, ()), rfl, rfl, rfl⟩, .inr ⟨f, hfm, Hpart.out⟩, Hown7.out, HR7.out, HT7.out, HevT7.out, HK7.out, HI7.out⟩
                  intro x hx y hy
                  rcases List.mem_append.1 hx with hx | hx
                  · exact Hqs.out x hx y (List.mem_cons_of_mem _ (List.mem_of_mem_drop hy))
                  · rw [Hft.out] at hx
                    rw [(Hall.out x hx).1, Hpart.out]; exact Hgt.out y hy
              · have hq2 : (part.toList == la.toList) = false := beq_of_ne hlp
                clear hlp hnb
                go_upto_region 12 with fail
                refine wp_region_lit ?_
                refine wp_move rfl (.tmp 7) rfl u7 rfl ?_
                simp only [Act.put, List.setIfInBounds_toArray, List.set_cons_succ, List.set_cons_zero]
                refine wp_move rfl (.tmp 13) rfl (.string part) rfl ?_
                simp only [Act.put, List.setIfInBounds_toArray, List.set_cons_succ, List.set_cons_zero]
                refine wp_move rfl (.tmp 0) rfl (.pointer (some ⟨b, 0, none⟩)) rfl ?_
                simp only [Act.put, List.setIfInBounds_toArray, List.set_cons_succ, List.set_cons_zero]
                refine wp_move rfl (.tmp 1) rfl (.string d) rfl ?_
                simp only [Act.put, List.setIfInBounds_toArray, List.set_cons_succ, List.set_cons_zero]
                refine wp_move rfl (.tmp 13) rfl (.string part) rfl ?_
                simp only [Act.put, List.setIfInBounds_toArray, List.set_cons_succ, List.set_cons_zero]
                refine wp_bslice rfl rfl (ps := #[(0, .string d), (1, .string part)]) (by simp only [List.map_toArray, List.map_cons, List.map_nil]; rfl) (slice_two99 w9 d part) ?_
                simp only [Act.put, List.setIfInBounds_toArray, List.set_cons_succ, List.set_cons_zero]
                generalize hwa : w9.alloc (.cells #[.string d, .string part] 9) = w9a at *
                refine wp_call rfl 73 #[.tmp 79] #[99] rfl #[.slice (some ⟨w9.heap.size, 0, none⟩) 2 2] (enters_of Tryz.func73 (by kernel_rfl) rfl) (by simp only [List.map_toArray, List.map_cons, List.map_nil]; rfl) (φ := fun v5 w5 => v5 = .string sub ∧ w9a = w5) (HJ.out.mono (fun e w5 h5 => by obtain ⟨h6, h7⟩ := h5; exact ⟨_, h6, rfl, h7⟩)) ?_
                rintro v4 w4 ⟨rfl, rfl⟩
                simp only [Act.put, List.setIfInBounds_toArray, List.set_cons_succ, List.set_cons_zero]
                refine wp_move rfl (.tmp 2) rfl (.slice (some ⟨g1, o1, none⟩) n c) rfl ?_
                simp only [Act.put, List.setIfInBounds_toArray, List.set_cons_succ, List.set_cons_zero]
                refine wp_call rfl 52 #[.tmp 76, .tmp 80, .tmp 81] #[49, 9, 22] rfl #[.pointer (some ⟨b, 0, none⟩), .string sub, .slice (some ⟨g1, o1, none⟩) n c] (enters_of Tryz.func52 (by kernel_rfl) rfl) (by simp only [List.map_toArray, List.map_cons, List.map_nil]; rfl) (φ := fun v5 w5 => BlwEnd T2 b L2 A2 m' sub (filt sub l) w9a (.returned v5) w5) (HIH.out.mono (fun e w5 h5 => by obtain ⟨h6, h7⟩ := h5; exact ⟨_, h6, ⟨rfl, h7⟩⟩)) ?_
                rintro v5 w5 ⟨hv5, T3, L3, A3, hT3, hR3, hI3, hK3⟩
                injection hv5 with hv5
                obtain ⟨idv, hidv⟩ : ∃ y, y = tid (treeB (bldE m' sub (filt sub l))) := ⟨_, rfl⟩
                have Hil := Lib.hid (show idv.length = 32 by rw [hidv]; exact tid_len _)
                rw [← hidv] at hv5 HE3
                subst hv5
                simp only [Act.put, List.setIfInBounds_toArray, List.set_cons_succ, List.set_cons_zero]
                refine wp_build rfl rfl (ps := #[(0, .string part), (1, .bool true), (2, .agg (bytV idv).toArray)]) (by simp only [List.map_toArray, List.map_cons, List.map_nil]; rfl) (build_ent w5 part true idv Hil.out) ?_
                simp only [Act.put, List.setIfInBounds_toArray, List.set_cons_succ, List.set_cons_zero]
                refine wp_bslice rfl rfl (ps := #[(0, .agg (entV (part, true, idv, ())).toArray)]) (by simp only [List.map_toArray, List.map_cons, List.map_nil]; rfl) (slice_one eltE w5 (part, true, idv, ()) (entV_len Hil.out) (by decide)) ?_
                simp only [Act.put, List.setIfInBounds_toArray, List.set_cons_succ, List.set_cons_zero]
                have hB6 := (Below.refl w5.heap.size w5).alloc (Nat.le_refl _) (.cells (entV (part, true, idv, ())).toArray 58)
                have hG6 := heap_alloc_new w5 (.cells (entV (part, true, idv, ())).toArray 58)
                have hevA := gen_own_below Hev9.out HBa.out
                have hev5 := own_keep hevA hK3 HevT.out
                refine wp_append_ent rfl (.tmp 74) (.tmp 84) rfl rfl w1.heap.size u7 E rfl (gen_own_below hev5 hB6) w5.heap.size (part, true, idv, ()) rfl hG6 Hil.out (by omega) (by have := hB6.size; have := hK3.size; have := HK9.out.size; have := HBa.out.size; omega) ?_
                intro v7 w7 hown7 hgr7 hwhere7
                simp only [Act.put, List.setIfInBounds_toArray, List.set_cons_succ, List.set_cons_zero]
                have hkg7 : Kp (fun q => Value.ownBlock u7 = some q) w5 w7 := (Kp.of_below hB6).trans (Kp.grown hgr7 (fun q hq => hq))
                have hge := fun q (hq : Value.ownBlock u7 = some q) => own_lt hev5 hq
                have hT3e : ∀ q, T3 q → ¬ Value.ownBlock u7 = some q := fun q hq he => by
                  rcases hT3 q hq with h9 | h9
                  · exact HevT.out q he h9
                  · have := (own_lt hevA he).2; omega
                have HR7 := Lib.hid (hR3.keep hkg7 hT3e)
                have HT7 := Lib.hid (show ∀ q, T3 q → T q ∨ w1.heap.size ≤ q from fun q hq => by
                  rcases hT3 q hq with h9 | h9
                  · exact HT2.out q h9
                  · right; have := HK9.out.size; have := HBa.out.size; omega)
                have HevT7 := Lib.hid (show ∀ q, v7.ownBlock = some q → ¬ T3 q from fun q hq ht => by
                  rcases hwhere7 with h9 | h9
                  · rw [h9] at hq; exact hT3e q ht hq
                  · rw [h9] at hq
                    injection hq with hq
                    have := hR3.lt q ht
                    simp at hq
                    omega)
                have HK7 := Lib.hid (((HK9.out.trans (Kp.of_below HBa.out)).trans ((hK3.mono (T2 := fun q => T q ∨ w1.heap.size ≤ q) HT2.out).trans (hkg7.mono (fun q hq => .inr (hge q hq).1)))))
                have HI7 := Lib.hid (HI.out.trans hI3)
                have Hown7 := Lib.hid hown7
                clear hB6 hG6 hev5 hevA hown7 hgr7 hwhere7 hkg7 hge hT3e hR3 hK3 hT3 hidv hI3
                generalize w5.alloc (.cells (entV (part, true, idv, ())).toArray 58) = w5a at *
                go_wp2_with fail
                go_roundg (gk - 1)
                case measure => have := Hig.out; have := Hn.out; omega
                case rel =>
                  have hig := Hig.out
                  have hm := Hm.out
                  simp only [List.length_cons] at hm
                  have hfm : f ∈ Q ++ filt sub l := List.mem_append_right _ (by rw [Hft.out]; exact List.mem_cons_self)
                  refine ⟨i + 1, m', Q ++ filt sub l, r.take kk, r.drop kk, E ++ [(part, true, idv, ())], Sx ++ bldT m' sub (filt sub l), part, T3, L3, A3, by omega, by go_num, rfl, by rw [HQ.out, Hft.out]; simp, by rw [← Hr.out, List.take_append_drop], by have := HmN.out; omega, by rw [List.length_drop]; omega, HE3.out, HS3.out, ?_, fun z hz => Hall.out z (List.mem_cons_of_mem _ hz), fun _ => ⟨E, (part, true, idv, ()), rfl, rfl, rfl⟩, .inr ⟨f, hfm, Hpart.out⟩, Hown7.out, HR7.out, HT7.out, HevT7.out, HK7.out, HI7.out⟩
                  intro x hx y hy
                  rcases List.mem_append.1 hx with hx | hx
                  · exact Hqs.out x hx y (List.mem_cons_of_mem _ (List.mem_of_mem_drop hy))
                  · rw [Hft.out] at hx
                    rw [(Hall.out x hx).1, Hpart.out]; exact Hgt.out y hy
      · have hnI : ¬ (i : Int) < (n : Int) := by omega
        have hdn : l.drop i = [] := List.drop_eq_nil_of_le (by have := Hn.out; omega)
        have hzs := HD.out
        rw [hdn] at hzs
        obtain ⟨hz0, hs0⟩ := List.append_eq_nil_iff.1 hzs.symm
        subst hs0
        have hE2 : bldE N d (filt d l) = E := by rw [HE.out]; cases m <;> simp [bldE]
        have hS2 : bldS N d (filt d l) = Sx := by rw [HSx.out]; cases m <;> simp [bldS]
        have hQ2 : filt d l = Q := by rw [HQ.out, List.append_nil]
        have htxt := bld_text N HL.out (by omega)
        have hshort := bld_short N HL.out
        have hids := bld_ids N d (filt d l)
        rw [hE2] at htxt hshort hids
        have hrows := (LAt.own (e := 58) (fun x hx => entV_len (hids x hx)) Hev.out).rows (R := entR) (fun x hx => entR_of (by have := hshort x hx; omega) (hids x hx))
        have HTr := Lib.hid (refTree_any u7 E wr hrows (fun x hx => by have := hshort x hx; omega) (by omega))
        have HP := Lib.hid (fun w2 (hB : Below wr.heap.size wr w2) => put19_any (HR.out.below hB) ⟨#[116, 114, 101, 101]⟩ (treeB E) (by decide) (by omega) (by have := Hcnt.out; omega) (by have := Hcnt.out; omega))
        have HE2 := Lib.hid hE2
        have HS2 := Lib.hid hS2
        have HQ2 := Lib.hid hQ2
        clear hdn hzs hz0 hE2 hS2 hQ2 htxt hshort hids hrows
        go_wp2_with fail
        refine HTr.out.mono ?_
        rintro e w2 ⟨rfl, hB2⟩
        have HP2 := Lib.hid (HP.out w2 hB2)
        have HB2 := Lib.hid hB2
        clear hB2 HP HTr
        go_wp2_with fail
        refine HP2.out.mono ?_
        rintro e w3 ⟨rfl, T3, hT3, hR3, hK3⟩
        obtain ⟨R, hRe⟩ : ∃ R, R = (bytV (kid ⟨#[116, 114, 101, 101]⟩ (treeB E))).toArray := ⟨_, rfl⟩
        rw [← hRe]
        have HRe := Lib.hid hRe
        have Hz3 := Lib.hid (show (Tryz.prog.info? 32).map (·.size) = some R.size by rw [hRe]; exact id_size (kid_len _ _))
        have Hone := Lib.hid (show R.all (·.oneCell') = true by rw [hRe]; exact id_one _)
        have Hs32 := Lib.hid (show R.size = 32 by rw [hRe, List.size_toArray, bytV_len, kid_len])
        have HR3 := Lib.hid hR3
        have HT3 := Lib.hid hT3
        have HK3 := Lib.hid hK3
        have hresT : ¬ T2 w.heap.size := fun hq => by
          rcases HT2.out _ hq with h9 | h9
          · have := HT.out _ h9; omega
          · have := Hb0.out; omega
        have HCs := Lib.hid ((hK3.block w.heap.size (by have := HB2.out.size; have := Hsz.out; have := Hb0.out; omega) hresT).trans ((HB2.out.block _ (lt_of_block Hres.out)).trans Hres.out))
        have HresT := Lib.hid hresT
        clear hRe hR3 hT3 hK3 HP2 hresT
        go_wp2_with (first | (refine wpList_store_rowTo rfl 32 (.tmp 6) (.tmp 91) rfl rfl w.heap.size R rfl rfl 32 #[.int .u8 0, .int .u8 0, .int .u8 0, .int .u8 0, .int .u8 0, .int .u8 0, .int .u8 0, .int .u8 0, .int .u8 0, .int .u8 0, .int .u8 0, .int .u8 0, .int .u8 0, .int .u8 0, .int .u8 0, .int .u8 0, .int .u8 0, .int .u8 0, .int .u8 0, .int .u8 0, .int .u8 0, .int .u8 0, .int .u8 0, .int .u8 0, .int .u8 0, .int .u8 0, .int .u8 0, .int .u8 0, .int .u8 0, .int .u8 0, .int .u8 0, .int .u8 0] HCs.out Hz3.out (by rw [Hs32.out]; rfl) Hone.out ?_))
        have hfin := setRow_heap w3 w.heap.size #[.int .u8 0, .int .u8 0, .int .u8 0, .int .u8 0, .int .u8 0, .int .u8 0, .int .u8 0, .int .u8 0, .int .u8 0, .int .u8 0, .int .u8 0, .int .u8 0, .int .u8 0, .int .u8 0, .int .u8 0, .int .u8 0, .int .u8 0, .int .u8 0, .int .u8 0, .int .u8 0, .int .u8 0, .int .u8 0, .int .u8 0, .int .u8 0, .int .u8 0, .int .u8 0, .int .u8 0, .int .u8 0, .int .u8 0, .int .u8 0, .int .u8 0, .int .u8 0] R 32 (0, 0) HCs.out
        refine bodyPost_ret (v := .agg R) (results_cell_row (fr := (0, 0)) rfl _ _ w.heap.size 32 _ _ rfl hfin Tryz.underlying32 rfl Hz3.out) rfl ?_
        refine ⟨by rw [HE2.out, HRe.out]; rfl, T3, _, _, ?_, HR3.out.setRow ?_ R, ?_, ?_⟩
        · intro q hq
          rcases HT3.out q hq with h9 | h9
          · rcases HT2.out q h9 with h9 | h9
            · exact .inl h9
            · right; have := Hb0.out; omega
          · right; have := HB2.out.size; have := Hsz.out; have := Hb0.out; omega
        · intro q hq e
          rcases HT3.out q hq with h9 | h9
          · rw [e] at h9; exact HresT.out h9
          · have := HB2.out.size; have := Hsz.out; have := Hb0.out; omega
        · have h9 := HI.out.trans (Inn.tree L2 A2 E)
          rw [HQ2.out]
          unfold bldT
          rw [← HQ2.out, HE2.out, HS2.out, HQ2.out]
          exact (by simpa using h9 : Inn L A Q (Sx ++ [E]) (putL L2 (obT E)) (A2 ++ [obT E]))
        · exact (kp_back HKp0.out ((HKp.out.trans (Kp.of_below HB2.out)).trans (HK3.out.mono HT2.out))).setRow (Nat.le_refl _)
end Go.Proofs.YtdhaanaenklleaaGreatDoor
