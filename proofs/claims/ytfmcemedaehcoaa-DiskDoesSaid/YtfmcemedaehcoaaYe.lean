/- A script as it comes in; great. -/
import Derived.Test.YtfmcemedaehcoaaYd
namespace Go.Proofs.Ytfmcemedaehcoaa
set_option linter.unusedVariables false
set_option linter.unusedSimpArgs false
open Go.ChangeShapes Go.WideShapes Go.ChangeAt Go.RowKit Go.ChangeMaps

abbrev CX := Int × ByteArray × ByteArray × Int × Int × Bool × List UInt8 × Unit
def callR (W : World) : CX → List Value → Prop := consR (intR .i64) (consR strR (consR strR (consR (intR .i64) (consR (intR .i64) (consR boolR (consR (bslR W) nilR))))))
instance : Inhabited CX := ⟨(0, ByteArray.empty, ByteArray.empty, 0, 0, false, [], ())⟩
theorem opens_call (W : World) : Opens Try.prog W 31 (callR W) :=
  opens_struct Try.underlying31 (by kernel_rfl) (opensF_cons (k := 1) rfl (by kernel_rfl) (opens_int Try.underlying3) (opensF_cons (k := 1) rfl (by kernel_rfl) (opens_str Try.underlying9) (opensF_cons (k := 1) rfl (by kernel_rfl) (opens_str Try.underlying9) (opensF_cons (k := 1) rfl (by kernel_rfl) (opens_int Try.underlying3) (opensF_cons (k := 1) rfl (by kernel_rfl) (opens_int Try.underlying3) (opensF_cons (k := 1) rfl (by kernel_rfl) (opens_bool Try.underlying4) (opensF_cons (k := 1) rfl (by kernel_rfl) (opens_bsl Try.underlying29 Try.underlying5 (by kernel_rfl) (by kernel_rfl)) opensF_nil)))))))
theorem opens_script (W : World) : Opens Try.prog W 22 (rowsR W 7 (callR W)) := opens_list Try.underlying22 (by kernel_rfl) (by decide) (opens_call W)
/-- A call that came in. -/
structure CIn (W : World) (c : Cl) : Prop where
  n : -9223372036854775808 ≤ c.n ∧ c.n ≤ 9223372036854775807
  k : -9223372036854775808 ≤ c.keep ∧ c.keep ≤ 9223372036854775807
  a : c.a.size ≤ 140737488351232
  z : c.z.size ≤ 140737488351232
  b : BytsA W c.u c.bs
  l : c.bs.length ≤ 140737488351232
theorem i64_in {n : Int} (h : (Lit.int .i64 n).wf = true) : -9223372036854775808 ≤ n ∧ n ≤ 9223372036854775807 := by
  simp [Lit.wf, IntKind.min, IntKind.max, IntKind.bits, IntKind.signed] at h; omega
theorem call_of {W : World} {x : CX} {cs : List Value} (h : callR W x cs) : ∃ c : Cl, cs = clV c ∧ CIn W c := by
  obtain ⟨kd, a, z, n, k, t, bs, _⟩ := x
  obtain ⟨c1, r1, rfl, ⟨rfl, h1⟩, c2, r2, rfl, ⟨rfl, h2⟩, c3, r3, rfl, ⟨rfl, h3⟩, c4, r4, rfl, ⟨rfl, h4⟩, c5, r5, rfl, ⟨rfl, h5⟩, c6, r6, rfl, rfl, c7, r7, rfl, ⟨u, rfl, h7, h8⟩, rfl⟩ := h
  exact ⟨⟨kd, a, z, n, k, t, u, bs⟩, rfl, i64_in h4, i64_in h5, h2, h3, h7, h8⟩
theorem clV_len (c : Cl) : (clV c).length = 7 := rfl
theorem script_open {W : World} {v : Value} {l : List CX} (h : Rows W 7 (callR W) v l) : ∃ cs : List Cl, LAt 7 clV W v cs ∧ ∀ c ∈ cs, CIn W c := by
  rcases h with ⟨⟨p, cap, rfl⟩, rfl⟩ | ⟨b, off, cap, rfl, h0, hl, hm, hb, hcell⟩
  · exact ⟨[], ⟨fun c _ => clV_len c, .inl ⟨p, cap, rfl, rfl⟩⟩, by simp⟩
  · have hel : ∀ i, i < l.length → ∃ c : Cl, CIn W c ∧ ∀ j, j < 7 → W.cell? ⟨b, off + i * 7 + j, none⟩ = (clV c)[j]? := fun i hi => by
      obtain ⟨ecs, h1, h2, h3⟩ := hcell i l[i] (by simp [hi])
      obtain ⟨c, rfl, hc⟩ := call_of h1
      exact ⟨c, hc, h3⟩
    haveI : Inhabited Cl := ⟨⟨0, ByteArray.empty, ByteArray.empty, 0, 0, false, .slice none 0 0, []⟩⟩
    obtain ⟨f, hf⟩ := Go.Deep.choose_lt hel
    have hlen : ((List.range l.length).map f).length = l.length := by simp
    refine ⟨(List.range l.length).map f, ⟨fun c _ => clV_len c, .inr ⟨b, off, cap, by rw [hlen], hb, by rw [hlen]; exact hl, hm, fun j x hx => ?_⟩⟩, fun c hc => ?_⟩
    · have hj : j < l.length * 7 := by
        have := (List.getElem?_eq_some_iff.1 hx).1
        rw [LF_len (n := 7) _ (fun c _ => clV_len c), hlen] at this
        exact this
      have hi : j / 7 < l.length := by omega
      have e : j = j / 7 * 7 + j % 7 := by omega
      have h2 := LF_at (fl := clV) (n := 7) ((List.range l.length).map f) (fun c _ => clV_len c) (j / 7) (f (j / 7)) (by simp [hi]) (j % 7) (by omega)
      rw [← e, hx] at h2
      have h3 := (hf (j / 7) hi).2 (j % 7) (by omega)
      rw [h2]
      rw [← h3]
      congr 2
      omega
    · obtain ⟨i, hi, rfl⟩ := List.mem_map.1 hc
      exact (hf i (List.mem_range.1 hi)).1
theorem CIn.slice {W : World} {c : Cl} (h : CIn W c) : ∃ pu cu, c.u = .slice pu c.bs.length cu := lat_slice h.b.lat
theorem clV_one {W : World} {c : Cl} (h : CIn W c) : (clV c).toArray.all (·.oneCell') = true := by
  obtain ⟨pu, cu, hu⟩ := h.slice
  rw [Array.all_eq_true_iff_forall_mem]
  intro u hu2
  have h2 : u ∈ clV c := by simpa using hu2
  simp only [clV, List.mem_cons, List.not_mem_nil, or_false] at h2
  rcases h2 with rfl | rfl | rfl | rfl | rfl | rfl | rfl <;> first | rfl | (rw [hu]; rfl)
theorem clV_size (c : Cl) : (Try.prog.info? 31).map (·.size) = some (clV c).toArray.size := by
  rw [show (clV c).toArray.size = 7 from rfl]; kernel_rfl
theorem clV_info (c : Cl) : (Try.prog.info? 31).map (·.size) = some (clV c).length := by
  rw [clV_len]; kernel_rfl
/-- A call taken out of the script into a box. -/
structure BoxC (w : World) (B : Nat) (c : Cl) (x : World) : Prop where
  h : x.heap[B]? = some (.cells (clV c).toArray 31 (0, 0))
  b : Below w.heap.size w x
theorem boxC_made (w : World) (old : Array Value) (c : Cl) : BoxC w w.heap.size c ((w.alloc (.cells old 31)).setRow w.heap.size (clV c).toArray) :=
  ⟨setRow_heap _ _ _ _ _ _ (heap_alloc_new w _), below_setRow ((Below.refl _ w).alloc (Nat.le_refl _) _) (Nat.le_refl _) _⟩
theorem box_absC {ops : Array Oper} {rest : List Oper} {Q : Exit → Act → World → Prop} {a : Act} {wr w' : World} {B : Nat} {c : Cl} (hb : BoxC wr B c w') (h : ∀ w2, BoxC wr B c w2 → wpList Try.prog ops Q rest a w2) : wpList Try.prog ops Q rest a w' := h _ hb
theorem LAt.call {w : World} {v : Value} {A : List Cl} (h : LAt 7 clV w v A) {i : Nat} (hi : i < A.length) : ∃ g o c, v = .slice (some ⟨g, o, none⟩) A.length c ∧ g < w.heap.size ∧ A.length ≤ c ∧ w.rangeAt g (o + i * 7) (clV A[i]) := by
  rcases h.2 with ⟨p, c, rfl, rfl⟩ | ⟨b, off, cap, rfl, h2, h3, h4, h5⟩
  · simp at hi
  · refine ⟨b, off, cap, rfl, h2, h3, fun j x hx => ?_⟩
    rw [Nat.add_assoc]
    refine h5 _ x ?_
    rw [LF_at A (fun x _ => clV_len x) i A[i] (by simp [hi]) j (by have := (List.getElem?_eq_some_iff.1 hx).1; rw [clV_len] at this; exact this)]
    exact hx
theorem LAt.shapeC {w : World} {v : Value} {A : List Cl} (h : LAt 7 clV w v A) : ∃ p c, v = .slice p A.length c := by
  rcases h.2 with ⟨p, c, rfl, rfl⟩ | ⟨b, off, cap, rfl, _⟩
  · exact ⟨p, c, rfl⟩
  · exact ⟨_, _, rfl⟩
theorem LAt.lenC {w : World} {v : Value} {A : List Cl} (h : LAt 7 clV w v A) : A.length ≤ maxLen := by
  rcases h.2 with ⟨p, c, rfl, rfl⟩ | ⟨b, off, cap, rfl, h2, h3, h4, h5⟩
  · simp
  · omega
/-- Calls of which there aren't too many, nor of too many bytes. -/
def Small (cs : List Cl) : Prop := cs.length ≤ 80 ∧ ∀ c ∈ cs, c.a.size ≤ 16384 ∧ c.bs.length ≤ 16384
structure GreatR (cs : List Cl) (w : World) (e : Ending) (w' : World) : Prop where
  e : ∃ g, e = .returned (.bool g) ∧ (g = false → Small cs)
  b : Below w.heap.size w w'
set_option maxRecDepth 100000 in
set_option maxHeartbeats 2000000 in
theorem great_any {v : Value} {cs : List Cl} {w : World} (hl : LAt 7 clV w v cs) (hc : ∀ c ∈ cs, CIn w c) : Calls Try.prog 11 #[v] w (GreatR cs w) := by
  obtain ⟨p, cp, rfl⟩ := hl.shapeC
  have hlen := hl.lenC
  unfold maxLen at hlen
  have HL := Lib.hid hl
  have HC := Lib.hid hc
  clear hl hc
  go_enter Try.func11, Try.ntmps11
  go_wp2_with fail
  go_loopg [3, 8] cs.length (fun gg vn vi wr => ∃ (i t : Nat), vi = .int .i64 i ∧ vn = .int .i64 t ∧ i + gg = cs.length ∧ t ≤ 16384 ∧ (∀ c ∈ cs.take i, c.a.size ≤ t ∧ c.bs.length ≤ t) ∧ Below w.heap.size w wr)
  case atStart => exact ⟨0, 0, rfl, rfl, by omega, by omega, by simp, Below.refl _ _⟩
  case round =>
    obtain ⟨i, t, rfl, rfl, hig, ht, hall, hB⟩ := hrel
    by_cases hlt : i < cs.length
    · have hltI : (i : Int) < (cs.length : Nat) := by omega
      obtain ⟨g, o, c', he, hg, hcc, hrg⟩ := HL.out.call hlt
      injection he with he1 _ he2
      subst he1 he2
      have Hrg := Lib.hid (range_below hrg hB hg)
      have Hc := Lib.hid (HC.out _ (List.getElem_mem hlt))
      have Hall := Lib.hid (show ∀ t', t ≤ t' → cs[i].a.size ≤ t' → cs[i].bs.length ≤ t' → ∀ c ∈ cs.take (i + 1), c.a.size ≤ t' ∧ c.bs.length ≤ t' from fun t' h1 h2 h3 c hc => by
        rw [List.take_succ_eq_append_getElem hlt] at hc
        rcases List.mem_append.1 hc with hc | hc
        · have := hall c hc; omega
        · rw [List.mem_singleton.1 hc]; exact ⟨h2, h3⟩)
      have HB := Lib.hid hB
      obtain ⟨c, hce⟩ : ∃ c, c = cs[i] := ⟨_, rfl⟩
      rw [← hce] at Hrg Hc Hall
      obtain ⟨pu, cu, hu⟩ := Hc.out.slice
      have h1 := Hc.out.a
      have h2 := Hc.out.z
      have h3 := Hc.out.l
      clear hrg hall hB hce
      go_wp2_with (first | (refine wpList_load_mid rfl 31 (.tmp 10) rfl g (o + i * 7) rfl (clV c) _ Hrg.out Try.underlying31 rfl (clV_info c) ?_) | (refine wpList_store_rowTo rfl 31 (.tmp 5) (.tmp 11) rfl rfl wr.heap.size (clV c).toArray rfl rfl 31 _ (heap_alloc_new wr _) (clV_size c) rfl (clV_one Hc.out) ?_; refine box_absC (boxC_made wr _ c) ?_; intro wx hbx; have HBx := Lib.hid hbx; have d1 : wx.cell? ⟨wr.heap.size, 1, none⟩ = some (.string c.a) := block_cell hbx.h 1; have d2 : wx.cell? ⟨wr.heap.size, 2, none⟩ = some (.string c.z) := block_cell hbx.h 2; have d6 : wx.cell? ⟨wr.heap.size, 6, none⟩ = some (.slice pu c.bs.length cu) := (block_cell hbx.h 6).trans (by rw [← hu]; rfl); clear hbx))
      · rename_i hgt
        go_ret
        exact ⟨⟨true, rfl, fun h => by cases h⟩, HB.out.trans (HBx.out.b.mono HB.out.size)⟩
      · rename_i hle
        go_roundg (gk - 1)
        case measure => omega
        case rel => exact ⟨i + 1, t + (c.a.size + c.z.size + c.bs.length), by go_num, by go_num, by omega, by omega, Hall.out _ (by omega) (by omega) (by omega), HB.out.trans (HBx.out.b.mono HB.out.size)⟩
    · have hltI : ¬ (i : Int) < (cs.length : Nat) := by omega
      have hall2 : ∀ c ∈ cs, c.a.size ≤ 16384 ∧ c.bs.length ≤ 16384 := fun c hc => by
        have := hall c (by rw [List.take_of_length_le (by omega)]; exact hc)
        omega
      have Ha := Lib.hid hall2
      have HB := Lib.hid hB
      clear hall hall2 hB
      by_cases h80 : 80 < cs.length
      · have g1 : decide ((80 : Int) < (cs.length : Nat)) = true := decide_eq_true (by omega)
        go_wp2_with fail
        go_ret
        exact ⟨⟨true, by rw [← g1]; rfl, fun h => (by cases h)⟩, HB.out⟩
      · have g1 : decide ((80 : Int) < (cs.length : Nat)) = false := decide_eq_false (by omega)
        go_wp2_with fail
        go_ret
        exact ⟨⟨false, by rw [← g1]; rfl, fun _ => ⟨by omega, Ha.out⟩⟩, HB.out⟩
end Go.Proofs.Ytfmcemedaehcoaa
