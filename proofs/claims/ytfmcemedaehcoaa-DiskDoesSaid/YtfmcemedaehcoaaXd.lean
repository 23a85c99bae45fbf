/- The document's device: drop, put. -/
import Derived.Test.YtfmcemedaehcoaaXc
namespace Go.Proofs.Ytfmcemedaehcoaa
set_option linter.unusedVariables false
set_option linter.unusedSimpArgs false
open Go.ChangeShapes Go.WideShapes Go.ChangeAt Go.RowKit Go.ChangeMaps

theorem drpA_app (P : List Ab) (y : Ab) (x : ByteArray) : drpA (P ++ [y]) x = if y.1 = x then drpA P x else drpA P x ++ [y] := by
  unfold drpA
  rw [List.filter_append]
  by_cases h : y.1 = x
  · rw [if_pos h]; simp [h]
  · rw [if_neg h]; simp [h]
theorem drpA_len (P : List Ab) (x : ByteArray) : (drpA P x).length ≤ P.length := List.length_filter_le _ _
theorem gr_new {S : Nat → Prop} {w0 w w' : World} {g : Nat} (h0 : w0.heap.size ≤ w.heap.size) (h1 : w.heap.size ≤ g) (h2 : g < w'.heap.size) : Gr S w0 w' g := .inr ⟨by omega, h2⟩
theorem fok_own {w : World} {base : Nat} {v : Value} {M : List Ab} (h : w.ownsRow base 68 3 v M.length (LF fV M)) : LAt 3 fV w v M := LAt.own (fun x _ => fV_len x) h
theorem own_lt3 {w : World} {base n : Nat} {v : Value} {xs : List Value} (h : w.ownsRow base 68 3 v n xs) {g : Nat} (hg : v.ownBlock = some g) : base ≤ g ∧ g < w.heap.size := h.lt g hg
theorem Rd.castA {S : Nat → Prop} {w0 w : World} {b : Nat} {h : Hd} {A A' : List Ab} (e : A = A') (d : Rd S w0 b h A w) : Rd S w0 b h A' w := e ▸ d
theorem row_nil (w : World) (base : Nat) : w.ownsRow base 68 3 (.slice none 0 0) ([] : List Ab).length (LF fV []) := ⟨by simp [LF], .inl ⟨rfl, rfl⟩⟩
set_option maxRecDepth 100000 in
set_option maxHeartbeats 1000000 in
theorem dropR_any {S : Nat → Prop} {w0 : World} {b : Nat} {h : Hd} {A : List Ab} {w : World} (d : Rd S w0 b h A w) (hn : A.length ≤ 1048576) (x : ByteArray) :
    Calls Try.prog 58 #[.pointer (some ⟨b, 0, none⟩), .string x] w fun e w' => e = .returned (.tuple #[]) ∧ Rd S w0 b h (drpA A x) w' := by
  have D := Lib.hid d
  obtain ⟨v, hb, hl, _⟩ := d.r
  obtain ⟨p, c, rfl⟩ := hl.shape
  have c0 : w.cell? ⟨b, 0, none⟩ = some (.slice p A.length c) := block_cell hb 0
  have HL := Lib.hid hl
  have Hb := Lib.hid hb
  have hbl := d.blk
  clear hl hb d
  go_enter Try.func58, Try.ntmps58
  go_wp2_with fail
  go_loopg [4, 12] A.length (fun gg vo vi wr => ∃ (i : Nat) (M : List Ab), vi = .int .i64 i ∧ i + gg = A.length ∧ M = drpA (A.take i) x ∧ wr.ownsRow w.heap.size 68 3 vo M.length (LF fV M) ∧ Below w.heap.size w wr)
  case atStart => exact ⟨0, [], rfl, by omega, by simp [drpA], row_nil _ _, Below.refl _ _⟩
  case round =>
    obtain ⟨i, M, rfl, hig, hM, ho, hB⟩ := hrel
    by_cases hlt : i < A.length
    · have hltI : (i : Int) < (A.length : Nat) := by omega
      obtain ⟨g, o, c', he, hg, hc, hrg, hob⟩ := HL.out.file hlt
      injection he with he1 _ he2
      subst he1 he2
      have Hrg := Lib.hid (range_below hrg hB hg)
      have hMl : M.length ≤ i := by rw [hM]; have := drpA_len (A.take i) x; rw [List.length_take] at this; omega
      have HM := Lib.hid (show (if A[i].1 = x then M else M ++ [A[i]]) = drpA (A.take (i + 1)) x by rw [List.take_succ_eq_append_getElem hlt, drpA_app, hM])
      have HB := Lib.hid hB
      have Ho := Lib.hid ho
      generalize A[i] = y at *
      clear hrg hB hM ho
      by_cases e : y.1 = x
      · have he := toList_eq e
        rw [if_pos e] at HM
        go_wp2_with (first | (refine wpList_load_mid rfl 68 (.tmp 14) rfl g (o + i * 3) rfl (fV y) _ Hrg.out Try.underlying68 rfl (by rw [fV_len]; kernel_rfl) ?_) | (refine wpList_store_rowTo rfl 68 (.tmp 6) (.tmp 15) rfl rfl wr.heap.size (fV y).toArray rfl rfl 68 _ (heap_alloc_new wr _) (fV_size y) rfl (fV_all y) ?_; refine box_absL (boxL_made wr _ (fV y)) ?_; intro wx hbx; have HBx := Lib.hid hbx; have d0 : wx.cell? ⟨wr.heap.size, 0, none⟩ = some (.string y.1) := block_cell hbx.h 0; clear hbx))
        have HBo := Lib.hid (gen_own_below Ho.out HBx.out.b)
        have HBw := Lib.hid (HB.out.trans (HBx.out.b.mono HB.out.size))
        go_roundg (gk - 1)
        case measure => omega
        case rel => exact ⟨i + 1, M, by go_num, by omega, HM.out, HBo.out, HBw.out⟩
      · have he := toList_ne e
        rw [if_neg e] at HM
        go_wp2_with (first | (refine wpList_load_mid rfl 68 (.tmp 14) rfl g (o + i * 3) rfl (fV y) _ Hrg.out Try.underlying68 rfl (by rw [fV_len]; kernel_rfl) ?_) | (refine wpList_store_rowTo rfl 68 (.tmp 6) (.tmp 15) rfl rfl wr.heap.size (fV y).toArray rfl rfl 68 _ (heap_alloc_new wr _) (fV_size y) rfl (fV_all y) ?_; refine box_absL (boxL_made wr _ (fV y)) ?_; intro wx hbx; have HBx := Lib.hid hbx; have d0 : wx.cell? ⟨wr.heap.size, 0, none⟩ = some (.string y.1) := block_cell hbx.h 0; have HBo := Lib.hid (gen_own_below Ho.out HBx.out.b); have HBw := Lib.hid (HB.out.trans (HBx.out.b.mono HB.out.size)); have Hrx : Hid (wx.rangeAt wr.heap.size 0 (fV y)) := Lib.hid (fun j q hq => by rw [Nat.zero_add, block_cell HBx.out.h]; simpa using hq); clear hbx) | (refine wpList_load_mid rfl 68 (.tmp 6) rfl wr.heap.size 0 rfl [.string y.1, .string (mkB y.2.1), .int .i64 (y.2.2 : Nat)] _ Hrx.out Try.underlying68 rfl fV_info ?_) | (at_builtin; go_must (refine wpList_append_gen eltF rfl (.tmp 20) (.tmp 22) rfl rfl w.heap.size _ M rfl (gen_own_below HBo.out ((Below.refl _ _).alloc (Nat.le_refl _) _)) _ [y] (LAt.block (fV_len _) rfl (heap_alloc_new _ _)) rfl (by simp only [List.length_cons, List.length_nil]; omega) (by unfold maxLen; simp only [List.length_cons, List.length_nil]; omega) (by have := HBw.out.size; simp; omega) ?_); intro v3 w3 ho3 hg3; have Ho3 := Lib.hid ho3; have HB3 := Lib.hid ((HBw.out.alloc HBw.out.size (.cells (fV y).toArray 68)).grown hg3 (by have := HBw.out.size; simp; omega) (fun k hk => (own_lt3 HBo.out hk).1)); clear ho3 hg3))
        go_roundg (gk - 1)
        case measure => omega
        case rel => exact ⟨i + 1, M ++ [y], by go_num, by omega, HM.out, Ho3.out, HB3.out⟩
    · have hltI : ¬ (i : Int) < (A.length : Nat) := by omega
      have hMA : M = drpA A x := by rw [hM, List.take_of_length_le (by omega)]
      obtain ⟨pv, cv, rfl⟩ := (fok_own ho).shape
      have hbr := (hB.block b hbl).trans Hb.out
      have f0 := block_free hbr 0
      have c0r : wr.cell? ⟨b, 0, none⟩ = some (.slice p A.length c) := block_cell hbr 0
      have HO := Lib.hid (Rd.castA hMA <| (D.out.below hB).row _ (fok_own ho) (fun g hg => by have h1 := own_lt3 ho hg; exact ⟨by omega, gr_new D.out.k.size h1.1 h1.2⟩))
      clear hM hMA hB ho hbr
      go_wp2_with fail
      exact bodyPost_end (v := .tuple #[]) (by simp [results, Try.results58]) rfl ⟨rfl, HO.out⟩
def dnB (f : ByteArray) (P : List Ab) : Bool := (drpA P f).any fun y => gtN y.1 f
def outR (f : Ab) (P : List Ab) : List Ab := if dnB f.1 P = true then insR f (drpA P f.1) else drpA P f.1
theorem dnB_app (f : ByteArray) (P : List Ab) (y : Ab) : dnB f (P ++ [y]) = if y.1 = f then dnB f P else dnB f P || gtN y.1 f := by
  unfold dnB
  rw [drpA_app]
  by_cases h : y.1 = f
  · rw [if_pos h, if_pos h]
  · rw [if_neg h, if_neg h, List.any_append]; simp
theorem dn_yes {f : ByteArray} {P : List Ab} (h : dnB f P = true) : ∃ y ∈ drpA P f, gtN y.1 f = true := by
  unfold dnB at h
  exact List.any_eq_true.1 h
theorem dn_no {f : ByteArray} {P : List Ab} (h : dnB f P = false) : ∀ y ∈ drpA P f, ¬ gtN y.1 f = true := by
  unfold dnB at h
  exact fun y hy hg => by have := List.any_eq_false.1 h y hy; exact this hg
theorem outR_skip {f y : Ab} {P : List Ab} (h : y.1 = f.1) : outR f (P ++ [y]) = outR f P := by
  unfold outR
  rw [dnB_app, drpA_app, if_pos h, if_pos h]
theorem outR_add {f y : Ab} {P : List Ab} (h : y.1 ≠ f.1) (hd : dnB f.1 P = true) : outR f (P ++ [y]) = outR f P ++ [y] := by
  unfold outR
  rw [dnB_app, drpA_app, if_neg h, if_neg h, hd, Bool.true_or, if_pos rfl, if_pos rfl, insR_done (dn_yes hd)]
theorem outR_over {f y : Ab} {P : List Ab} (h : y.1 ≠ f.1) (hd : dnB f.1 P = false) (hg : gtN y.1 f.1 = false) : outR f (P ++ [y]) = outR f P ++ [y] := by
  unfold outR
  rw [dnB_app, drpA_app, if_neg h, if_neg h, hd, hg, if_neg (by decide), if_neg (by decide)]
theorem outR_now {f y : Ab} {P : List Ab} (h : y.1 ≠ f.1) (hd : dnB f.1 P = false) (hg : gtN y.1 f.1 = true) : outR f (P ++ [y]) = outR f P ++ [f] ++ [y] := by
  unfold outR
  rw [dnB_app, drpA_app, if_neg h, if_neg h, hd, hg, Bool.false_or, if_pos rfl, if_neg (by decide), insR_now (dn_no hd) hg]
  simp
theorem outR_end {f : Ab} {A : List Ab} : putR A f = if dnB f.1 A = true then outR f A else outR f A ++ [f] := by
  unfold putR outR
  by_cases h : dnB f.1 A = true
  · rw [if_pos h, if_pos h]
  · rw [if_neg h, if_neg h, insR_over (dn_no (by simpa using h))]
theorem insR_len (f : Ab) : ∀ L, (insR f L).length = L.length + 1
  | [] => rfl
  | x :: r => by unfold insR; split <;> simp [insR_len f r]
theorem outR_len (f : Ab) (P : List Ab) : (outR f P).length ≤ P.length + 1 := by
  unfold outR
  have := drpA_len P f.1
  split
  · rw [insR_len]; omega
  · omega
theorem putR_len (f : Ab) (A : List Ab) : (putR A f).length ≤ A.length + 1 := by
  unfold putR
  rw [insR_len]
  have := drpA_len A f.1
  omega
theorem gt_less {a b : ByteArray} (h : (a.toList == b.toList) = false) : Op.bytesLess a.toList b.toList = !gtN a b := by
  unfold gtN
  rw [h]; simp
end Go.Proofs.Ytfmcemedaehcoaa
