/- Walks: a token that is taken in; the semicolon that a line feed is. -/
import Derived.Test.YtejogobhnbjpdaaDoorKx
import Derived.Deep.MidRow
namespace Go.Proofs.YtejogobhnbjpdaaDoor
set_option linter.unusedVariables false
set_option linter.unusedSimpArgs false
open Go.ChangeShapes Go.WideShapes Go.ChangeAt Go.RowKit

theorem Lx.frz {b at_ : Nat} {s : ByteArray} {T M : List Tk} {w : World} (h : Lx b s at_ T M w) (i : Nat) : w.frozen? ⟨b, i, none⟩ = false := by
  obtain ⟨tv, mv, h1, _⟩ := h.f
  exact block_free h1 i
theorem Lx.setAt {b at_ e : Nat} {s : ByteArray} {T M : List Tk} {w : World} (h : Lx b s at_ T M w) : Lx b s e T M (w.setCell ⟨b, 1, none⟩ (.int .i64 e)) := by
  obtain ⟨tv, mv, h1, h2, h3, h4⟩ := h.f
  refine ⟨tv, mv, ?_, ownsRow_setCell_below h2 (by show b < b + 1; omega) _, ownsRow_setCell_below h3 (by show b < b + 1; omega) _, h4⟩
  have h := block_set (i := 1) (u := .int .i64 e) h1
  simpa using h
/-- The slices of tokens and of comments. -/
theorem Lx.sl {b at_ : Nat} {s : ByteArray} {T M : List Tk} {w : World} (h : Lx b s at_ T M w) : ∃ tv mv, w.cell? ⟨b, 2, none⟩ = some tv ∧ w.cell? ⟨b, 3, none⟩ = some mv ∧ LAt 3 tkV w tv T ∧ LAt 3 tkV w mv M := by
  obtain ⟨tv, mv, h1, h2, h3, h4⟩ := h.f
  exact ⟨tv, mv, block_cell h1 2, block_cell h1 3, LAt.own (fun x _ => tkV_len x) h2, LAt.own (fun x _ => tkV_len x) h3⟩
/-- An element of a row. -/
theorem LAt.load {w : World} {b off cap n_ : Nat} {l : List Tk} (h : LAt 3 tkV w (.slice (some ⟨b, off, none⟩) n_ cap) l) {i : Nat} {x : Tk} (hx : l[i]? = some x) :
    b < w.heap.size ∧ ∀ w1, Below w.heap.size w w1 → (loadVar 31 ⟨b, off + i * 3, none⟩).run Tryd.prog w1 = .ok (.agg (tkV x).toArray) w1 := by
  obtain ⟨hl, h⟩ := h
  rcases h with ⟨p, cap, hv, rfl⟩ | ⟨b', off', cap', hv, hb, hcap, hmax, hcell⟩
  · simp at hx
  · injection hv with hv1 hv2 hv3
    injection hv1 with hv1
    injection hv1 with hv4 hv5
    subst hv4; subst hv5
    refine ⟨hb, fun w1 hB => run_loadVar_mid (P := Tryd.prog) w1 b (off + i * 3) 31 (tkV x) _ (fun j z hz => ?_) Tryd.underlying31 rfl (by kernel_rfl)⟩
    have hj : j < 3 := (List.getElem?_eq_some_iff.1 hz).1
    have := hcell (i * 3 + j) z (by rw [LF_at l (fun y _ => tkV_len y) i x hx j hj]; exact hz)
    rw [Nat.add_assoc]
    exact (hB.cell (p := ⟨b, off + (i * 3 + j), none⟩) hb).trans this
theorem LAt.shape {w : World} {v : Value} {l : List Tk} (h : LAt 3 tkV w v l) : ∃ p cap, v = .slice p l.length cap ∧ (0 < l.length → ∃ b off, p = some ⟨b, off, none⟩) := by
  rcases h.2 with ⟨p, cap, hv, rfl⟩ | ⟨b', off', cap', hv, _⟩
  · exact ⟨p, cap, hv, fun h => by cases h⟩
  · exact ⟨_, _, hv, fun _ => ⟨_, _, rfl⟩⟩

set_option maxRecDepth 100000 in
set_option maxHeartbeats 1000000 in
theorem take_any (b : Nat) (s : ByteArray) (at_ k e : Nat) (T M : List Tk) (w : World) (h : Lx b s at_ T M w) (h1 : at_ ≤ e) (h2 : e ≤ s.size) (hs : s.size ≤ 1048576) (hT : T.length ≤ 16777216) :
    Calls Tryd.prog 67 #[.pointer (some ⟨b, 0, none⟩), .int .i64 (k : Nat), .int .i64 (e : Nat), .int .i64 (-1)] w fun r w' => r = .returned (.int .i64 (-1)) ∧ Lx b s e (T ++ [(k, s.extract at_ e, at_)]) M w' ∧ Below b w w' := by
  have c1 := h.tx.c1
  have HP := Lib.hid (put_any b s at_ k at_ e T M w h h1 h2 hs hT)
  clear h
  go_enter Tryd.func67, Tryd.ntmps67
  go_wp2_with fail
  refine HP.out.mono ?_
  rintro r w1 ⟨rfl, hL, hB⟩
  have c1' := hL.tx.c1
  have f1 := hL.frz 1
  have HS := Lib.hid (hL.setAt (e := e))
  have HB := Lib.hid (hB.trans (((Below.refl b w1).setCell (p := ⟨b, 1, none⟩) (Nat.le_refl b) (.int .i64 e))))
  clear hL hB
  go_wp2_with fail
  go_ret
  exact ⟨rfl, HS.out, HB.out⟩
set_option maxRecDepth 100000 in
theorem take_bad (b : Nat) (k f : Nat) (e : Int) (w : World) :
    Calls Tryd.prog 67 #[.pointer (some ⟨b, 0, none⟩), .int .i64 (k : Nat), .int .i64 e, .int .i64 (f : Nat)] w fun r w' => r = .returned (.int .i64 (f : Nat)) ∧ w = w' := by
  have hf : ((f : Int) == -1) = false := beq_eq_false_iff_ne.2 (by omega)
  go_enter Tryd.func67, Tryd.ntmps67
  go_wp2_with fail
  go_ret
  exact ⟨rfl, rfl⟩

theorem ext_nil (s : ByteArray) (q : Nat) : s.extract q q = ⟨#[]⟩ := by
  apply ByteArray.ext; apply Array.ext'; rw [Lib.extract_data]; simp
set_option maxRecDepth 100000 in
set_option maxHeartbeats 2000000 in
theorem feed_any (b : Nat) (s : ByteArray) (at_ q : Nat) (T M : List Tk) (w : World) (h : Lx b s at_ T M w) (h2 : q ≤ s.size) (hs : s.size ≤ 1048576) (hT : T.length ≤ 16777216) :
    Calls Tryd.prog 49 #[.pointer (some ⟨b, 0, none⟩), .int .i64 (q : Nat)] w fun r w' => r = .returned (.tuple #[]) ∧ Lx b s at_ (feedL T q) M w' ∧ Below b w w' := by
  obtain ⟨tv, mv, c2, c3, hTv, hMv⟩ := h.sl
  obtain ⟨p, cap, rfl, hp⟩ := hTv.shape
  have hlt := h.lt
  have HL0 := Lib.hid (fun w1 (h1 : Below w.heap.size w w1) => (by
    have e := (h1.cell (p := ⟨b, 2, none⟩) hlt).trans c2
    simp [go_sem, e] : (loadVar 23 ⟨b, 2, none⟩).run Tryd.prog w1 = .ok (.slice p T.length cap) w1))
  have hcs : T = [] ∨ ∃ T' t, T = T' ++ [t] := by
    rcases List.eq_nil_or_concat T with h | ⟨T', t, h⟩
    · exact .inl h
    · exact .inr ⟨T', t, by rw [h, List.concat_eq_append]⟩
  rcases hcs with rfl | ⟨T', t, rfl⟩
  · have HF : Hid (Lx b s at_ (feedL [] q) M w) := Lib.hid h
    clear h hTv hMv hp c2 c3
    have h0 : decide (0 < 0) = false := rfl
    go_enter Tryd.func49, Tryd.ntmps49
    go_wp2_with fail
    refine wp_region_class (Below w.heap.size w) (by kernel_rfl) (by kernel_rfl) (Below.refl _ _).drew ?_
    repeat (go_big_quiet_step (first | (intro _; rfl)))
    refine wpQuiet_load_at rfl 23 (.tmp 6) rfl ⟨b, 2, none⟩ rfl (.slice p 0 cap) HL0.out ?_
    simp only [Act.put, List.setIfInBounds_toArray, List.set_cons_succ, List.set_cons_zero]
    repeat (go_big_quiet_step (first | (intro _; rfl)))
    refine wpQuiet_nil ?_
    intro wq hBq
    have HS := Lib.hid (HF.out.below hBq)
    have HB := Lib.hid (hBq.mono (Nat.le_of_lt hlt))
    clear hBq
    go_wp2_with fail
    exact bodyPost_end (v := .tuple #[]) (by simp [results, Tryd.results49]) rfl ⟨rfl, HS.out, HB.out⟩
  · obtain ⟨g, off, rfl⟩ := hp (by simp)
    have HLT := Lib.hid (hTv.load (i := T'.length) (x := t) (by simp)).2
    have HX := Lib.hid h
    obtain ⟨k, x, at2⟩ := t
    have HC := Lib.hid (fun w1 (h1 : Below w.heap.size w w1) => (ends_any k at2 x w1).mono (fun e w2 hh => (⟨hh.1, h1.trans (hh.2.mono h1.size)⟩ : e = .returned (.bool (endsB (k, x, at2))) ∧ Below w.heap.size w w2)))
    have HE := Lib.hid (show feedL (T' ++ [(k, x, at2)]) q = if endsB (k, x, at2) = true then (T' ++ [(k, x, at2)]) ++ [(6, ⟨#[]⟩, q)] else T' ++ [(k, x, at2)] by unfold feedL; rw [List.getLast?_concat])
    have HP := Lib.hid (fun w1 (h1 : Lx b s at_ (T' ++ [(k, x, at2)]) M w1) => put_any b s at_ 6 q q (T' ++ [(k, x, at2)]) M w1 h1 (Nat.le_refl q) h2 hs hT)
    have htk : (tkV (k, x, at2)).toArray = #[.int .i64 k, .string x, .int .i64 at2] := rfl
    rw [htk] at HLT
    have hln : (T' ++ [(k, x, at2)]).length = T'.length + 1 := by simp
    rw [hln] at HL0
    rw [hln] at hT
    clear h hTv hMv hp c2 c3 htk
    generalize T'.length = m at *
    have hm1 : (m : Int) + 1 - 1 = m := by omega
    have hwm : wrap64 (m : Int) = (m : Int) := by unfold wrap64; omega
    have h0 : decide (0 < m + 1) = true := decide_eq_true (by omega)
    clear hln
    go_enter Tryd.func49, Tryd.ntmps49
    go_wp2_with fail
    refine wp_region_class (Below w.heap.size w) (by kernel_rfl) (by kernel_rfl) (Below.refl _ _).drew ?_
    repeat (go_big_quiet_step (first | (intro _; rfl)))
    refine wpQuiet_load_at rfl 23 (.tmp 6) rfl ⟨b, 2, none⟩ rfl (.slice (some ⟨g, off, none⟩) (m + 1) cap) HL0.out ?_
    simp only [Act.put, List.setIfInBounds_toArray, List.set_cons_succ, List.set_cons_zero]
    repeat (go_big_quiet_step (first | (intro _; rfl)))
    refine wpQuiet_load_at (by simp [Region.wanted, yielded, Act.put]) 23 (.tmp 13) rfl ⟨b, 2, none⟩ rfl (.slice (some ⟨g, off, none⟩) (m + 1) cap) HL0.out ?_
    simp only [Act.put, List.setIfInBounds_toArray, List.set_cons_succ, List.set_cons_zero]
    repeat (go_big_quiet_step (first | (intro _; rfl)))
    refine wpQuiet_load_at (by simp [Region.wanted, yielded, Act.put]) 23 (.tmp 17) rfl ⟨b, 2, none⟩ rfl (.slice (some ⟨g, off, none⟩) (m + 1) cap) HL0.out ?_
    simp only [Act.put, List.setIfInBounds_toArray, List.set_cons_succ, List.set_cons_zero]
    repeat (go_big_quiet_step (first | (intro _; rfl)))
    refine wpQuiet_load_at (by simp [Region.wanted, yielded, Act.put]) 31 (.tmp 21) rfl ⟨g, off + m * 3, none⟩ rfl (.agg #[.int .i64 k, .string x, .int .i64 at2]) HLT.out ?_
    simp only [Act.put, List.setIfInBounds_toArray, List.set_cons_succ, List.set_cons_zero]
    cases he : endsB (k, x, at2) with
    | true =>
      rw [he] at HC
      have HE2 := Lib.hid (show feedL (T' ++ [(k, x, at2)]) q = (T' ++ [(k, x, at2)]) ++ [(6, ⟨#[]⟩, q)] by rw [HE.out, if_pos he])
      clear he
      repeat (go_big_quiet_step (first | (intro hh; with_reducible exact HC.out _ hh) | (intro _; rfl)))
      refine wpQuiet_nil ?_
      intro wq hBq
      have HL := Lib.hid (HX.out.below hBq)
      have HB := Lib.hid (hBq.mono (Nat.le_of_lt hlt))
      clear hBq
      go_wp2_with fail
      refine (HP.out _ HL.out).mono ?_
      rintro r w1 ⟨rfl, hL1, hB1⟩
      have HS := Lib.hid hL1
      have HB2 := Lib.hid (HB.out.trans hB1)
      clear hL1 hB1
      go_wp2_with fail
      exact bodyPost_end (v := .tuple #[]) (by simp [results, Tryd.results49]) rfl ⟨rfl, by rw [HE2.out, ← ext_nil s q]; exact HS.out, HB2.out⟩
    | false =>
      rw [he] at HC
      have HE2 := Lib.hid (show feedL (T' ++ [(k, x, at2)]) q = T' ++ [(k, x, at2)] by rw [HE.out, if_neg (by rw [he]; decide)])
      clear he
      repeat (go_big_quiet_step (first | (intro hh; with_reducible exact HC.out _ hh) | (intro _; rfl)))
      refine wpQuiet_nil ?_
      intro wq hBq
      have HL := Lib.hid (HX.out.below hBq)
      have HB := Lib.hid (hBq.mono (Nat.le_of_lt hlt))
      clear hBq
      go_wp2_with fail
      exact bodyPost_end (v := .tuple #[]) (by simp [results, Tryd.results49]) rfl ⟨rfl, by rw [HE2.out]; exact HL.out, HB.out⟩

structure NB (b : Nat) (s : ByteArray) (at_ : Nat) (T M : List Tk) (v : Value) (w : World) : Prop where
  f : ∃ tv u, w.heap[b]? = some (.cells #[.string s, .int .i64 at_, tv, u] 53 (0, 0)) ∧ w.ownsRow (b + 1) 31 3 tv T.length (LF tkV T) ∧ w.ownsRow (b + 1) 31 3 v M.length (LF tkV M) ∧ Apart tv v
structure NBE (b : Nat) (s : ByteArray) (at_ : Nat) (T M : List Tk) (v0 v : Value) (w : World) : Prop where
  e : v = v0
  b : NB b s at_ T M v w
theorem NB.st1 (b : Nat) (s : ByteArray) (at_ : Nat) (T M : List Tk) : K3.St1 (NB b s at_ T M) := fun v w1 w2 h hB => by
  obtain ⟨u, mv, h1, h2, h3, h4⟩ := h.f
  exact ⟨u, mv, (hB.block _ (lt_of_block h1)).trans h1, gen_own_below h2 hB, gen_own_below h3 hB, h4⟩
theorem NBE.st1 (b : Nat) (s : ByteArray) (at_ : Nat) (T M : List Tk) (v0 : Value) : K3.St1 (NBE b s at_ T M v0) := fun v w1 w2 h hB => ⟨h.e, NB.st1 _ _ _ _ _ v w1 w2 h.b hB⟩
theorem NB.grow {b at_ : Nat} {s : ByteArray} {T M : List Tk} {v v' : Value} {w w' : World} {x : Tk} (h : NB b s at_ T M v w) (ho : w'.ownsRow (b + 1) 31 3 v' (M.length + [x].length) (LF tkV M ++ LF tkV [x])) (hg : w.grownBy w' v.ownBlock) (ha : v'.ownBlock = v.ownBlock ∨ v'.ownBlock = some w.heap.size) :
    NB b s at_ T (M ++ [x]) v' w' ∧ Below b w w' := by
  obtain ⟨tv, u, h1, h2, h3, h4⟩ := h.f
  have hB : Below (b + 1) w w' := (Below.refl _ _).grown hg (by have := lt_of_block h1; omega) (fun k hk => (h3.lt k hk).1)
  refine ⟨⟨tv, u, (hB.block b (by omega)).trans h1, own_far h2 hg (fun g hgm e => h4 g hgm e), by rw [List.length_append, LF_app]; exact ho, fun g hv hm => ?_⟩, hB.mono (by omega)⟩
  rcases ha with e | e
  · exact h4 g hv (e.symm.trans hm)
  · rw [e] at hm
    have h5 := (own_lt h2 hv).2
    simp only [Option.some.injEq] at hm
    omega
theorem NB.store {b at_ : Nat} {s : ByteArray} {T M : List Tk} {v : Value} {w : World} (h : NB b s at_ T M v w) : Lx b s at_ T M (w.setCell ⟨b, 3, none⟩ v) := by
  obtain ⟨tv, u, h1, h2, h3, h4⟩ := h.f
  refine ⟨tv, v, ?_, ownsRow_setCell_below h2 (by show b < b + 1; omega) _, ownsRow_setCell_below h3 (by show b < b + 1; omega) _, h4⟩
  have h := block_set (i := 3) (u := v) h1
  simpa using h
theorem build_nt (w : World) (a : Nat) (t : ByteArray) : (Instr.build 31 #[(1, .string t), (2, .int .i64 a)]).run Tryd.prog w = .ok (.agg (tkV (0, t, a)).toArray) w := by
  simp [tkV, go_sem, Instr.build]
theorem index_lf : ∀ (l : List UInt8), (decide (0 ≤ Lib.indexByte l 10) = true ↔ ∃ i : Nat, l[i]? = some (10 : UInt8))
  | [] => by simp [Lib.indexByte]
  | b :: l => by
    have ih := index_lf l
    have hge := Lib.indexByte_ge l 10
    rw [decide_eq_true_eq] at ih ⊢
    show 0 ≤ (if (b == 10) = true then (0 : Int) else if (Lib.indexByte l 10 == -1) = true then -1 else Lib.indexByte l 10 + 1) ↔ _
    by_cases hb : b = 10
    · rw [if_pos (by rw [hb]; rfl)]
      exact ⟨fun _ => ⟨0, by rw [hb]; rfl⟩, fun _ => Int.le_refl 0⟩
    · rw [if_neg (by simpa using hb)]
      constructor
      · intro h
        have h0 : 0 ≤ Lib.indexByte l 10 := by
          by_cases h1 : Lib.indexByte l 10 = -1
          · rw [if_pos (by rw [h1]; rfl)] at h; omega
          · omega
        obtain ⟨i, hi⟩ := ih.1 h0
        exact ⟨i + 1, hi⟩
      · rintro ⟨i, hi⟩
        cases i with
        | zero => simp at hi; exact absurd hi hb
        | succ i =>
          have := ih.2 ⟨i, hi⟩
          rw [if_neg (by intro h; have := eq_of_beq h; omega)]; omega
theorem index_has (s : ByteArray) (q e : Nat) (h1 : q ≤ e) (h2 : e ≤ s.size) : decide (0 ≤ Lib.indexByte (s.extract q e).data.toList 10) = hasLF s q e := by
  rw [Bool.eq_iff_iff, index_lf]
  unfold hasLF
  rw [List.any_eq_true]
  have hx : ∀ i, (s.extract q e).data.toList[i]? = if i < e - q then some (s.get! (q + i)) else none := fun i => by
    have := ext_get s q (e - q) i (by omega)
    rw [show q + (e - q) = e by omega] at this
    exact this
  constructor
  · rintro ⟨i, hi⟩
    rw [hx] at hi
    split at hi
    · rename_i hlt
      exact ⟨i, List.mem_range.2 hlt, decide_eq_true (by injection hi with hi; unfold byt; rw [hi]; rfl)⟩
    · cases hi
  · rintro ⟨i, hi, hb⟩
    have hlt := List.mem_range.1 hi
    refine ⟨i, ?_⟩
    rw [hx, if_pos hlt]
    have hb : byt s (q + i) = 10 := of_decide_eq_true hb
    unfold byt at hb
    congr 1
    exact UInt8.toNat_inj.1 hb

set_option maxRecDepth 100000 in
set_option maxHeartbeats 4000000 in
theorem note_any (b : Nat) (s : ByteArray) (at_ e : Nat) (T M : List Tk) (w : World) (h : Lx b s at_ T M w) (h1 : at_ ≤ e) (h2 : e ≤ s.size) (hs : s.size ≤ 1048576) (hT : T.length ≤ 16777216) (hM : M.length ≤ 16777216) :
    Calls Tryd.prog 64 #[.pointer (some ⟨b, 0, none⟩), .int .i64 (e : Nat), .int .i64 (-1)] w fun r w' => r = .returned (.int .i64 (-1)) ∧ Lx b s e (if hasLF s at_ e = true then feedL T at_ else T) (M ++ [(0, s.extract at_ e, at_)]) w' ∧ Below b w w' := by
  have c0 := h.tx.c0
  have c1 := h.tx.c1
  have Hix := Lib.hid (index_has s at_ e h1 h2)
  have Hsl := Lib.hid (slice_str s at_ e h1 h2)
  have h1I : (at_ : Int) ≤ e := by omega
  have h2I : (e : Int) ≤ s.size := by omega
  have HX := Lib.hid h
  clear h
  obtain ⟨x, hx⟩ : ∃ x, x = s.extract at_ e := ⟨_, rfl⟩
  rw [← hx] at Hix
  have HC := Lib.hid (fun w1 => Tryd.strings_Contains_one x 10 w1)
  rw [Hix.out] at HC
  obtain ⟨T2, hT2⟩ : ∃ T2, T2 = if hasLF s at_ e = true then feedL T at_ else T := ⟨_, rfl⟩
  rw [← hT2]
  have HT2 := Lib.hid hT2
  clear hT2
  go_enter Tryd.func64, Tryd.ntmps64
  go_wp2_with fail
  go_quiet (fail)
  rw [← hx]
  have HXq := Lib.hid hx
  clear hx c0 c1
  have HLq : Hid (Lx b s at_ T M (w.drewN nq)) := Lib.hid (HX.out.below (below_drewN (Below.refl _ _) nq))
  have hBq0 : Below b w (w.drewN nq) := below_drewN (Below.refl _ _) nq
  generalize w.drewN nq = w0 at *
  have h0 := HLq.out
  have hlt := h0.lt
  obtain ⟨tv, mv, hbox, hoT, hoM, hap⟩ := h0.f
  obtain ⟨pt, ct, rfl⟩ := own_slice hoT
  obtain ⟨pm, cm, rfl⟩ := own_slice hoM
  have hd4 : Below w0.heap.size w0 w0.drew := (Below.refl _ _).drew
  clear h0
  go_wp2_with fail
  have hRL : ∃ Rs : List (Value → World → Prop), Rs = [K3.PureV (.pointer (some ⟨b, 0, none⟩)),
      K3.PureV (.pointer (some ⟨b, 0, none⟩)),
      K3.PureV (.pointer (some ⟨b, 0, none⟩)),
      K3.PureV (.pointer (some ⟨b, 3, none⟩)),
      NBE b s at_ T M (.slice pm M.length cm),
      K3.PureV (.string x),
      K3.PureV (.pointer (some ⟨b, 0, none⟩)),
      K3.PureV (.pointer (some ⟨b, 0, none⟩)),
      K3.PureV (.pointer (some ⟨b, 1, none⟩)),
      K3.PureV (.int .i64 (at_ : Nat)),
      K3.PureV (.agg (tkV (0, x, at_)).toArray),
      K3.NewB 1 (tkV (0, x, at_)).toArray 31,
      NB b s at_ T (M ++ [(0, x, at_)]),
      K3.PureV (.pointer (some ⟨b, 0, none⟩)),
      K3.PureV (.pointer (some ⟨b, 3, none⟩)),
      LF_ b s at_ T (M ++ [(0, x, at_)])] := ⟨_, rfl⟩
  obtain ⟨Rs, hRs⟩ := hRL
  refine K3.wp_region_rel2 b (by omega) (K3.RL Rs) [2, 2, 2, 2, 1, 2, 2, 2, 2, 2, 2, 1, 1, 2, 2, 1] [1, 1, 1, 1, 1, 1, 1, 1, 1, 1, 1, 1, 2, 1, 1, 2] [[], [], [], [], [], [], [], [], [], [], [], [], [4, 11], [], [], [4, 11, 12]] (by kernel_rfl) (by kernel_rfl) (K3.RL.st1 (by rw [hRs]; exact K3.st1_cons (K3.PureV.st1 _) (K3.st1_cons (K3.PureV.st1 _) (K3.st1_cons (K3.PureV.st1 _) (K3.st1_cons (K3.PureV.st1 _) (K3.st1_cons (NBE.st1 _ _ _ _ _ _) (K3.st1_cons (K3.PureV.st1 _) (K3.st1_cons (K3.PureV.st1 _) (K3.st1_cons (K3.PureV.st1 _) (K3.st1_cons (K3.PureV.st1 _) (K3.st1_cons (K3.PureV.st1 _) (K3.st1_cons (K3.PureV.st1 _) (K3.st1_cons (K3.NewB.st1 _ _ _) (K3.st1_cons (NB.st1 _ _ _ _ _) (K3.st1_cons (K3.PureV.st1 _) (K3.st1_cons (K3.PureV.st1 _) (K3.st1_cons (LF_.st1 _ _ _ _ _) (K3.st1_nil)))))))))))))))))) (K3.RL.st2 (by rw [hRs]; exact K3.st2_cons (K3.PureV.st2 _ _ _) (K3.st2_cons (K3.PureV.st2 _ _ _) (K3.st2_cons (K3.PureV.st2 _ _ _) (K3.st2_cons (K3.PureV.st2 _ _ _) (K3.st2_skip (K3.st2_cons (K3.PureV.st2 _ _ _) (K3.st2_cons (K3.PureV.st2 _ _ _) (K3.st2_cons (K3.PureV.st2 _ _ _) (K3.st2_cons (K3.PureV.st2 _ _ _) (K3.st2_cons (K3.PureV.st2 _ _ _) (K3.st2_cons (K3.PureV.st2 _ _ _) (K3.st2_skip (K3.st2_skip (K3.st2_cons (K3.PureV.st2 _ _ _) (K3.st2_cons (K3.PureV.st2 _ _ _) (K3.st2_skip (K3.st2_nil)))))))))))))))))) ?_ ?_ ?_
  · intro i o d hi hd
    have hmem := List.mem_of_getElem? hi
    simp only [List.mem_cons, List.not_mem_nil, or_false] at hmem
    rcases hmem with rfl | rfl | rfl | rfl | rfl | rfl | rfl | rfl | rfl | rfl | rfl | rfl | rfl | rfl | rfl | rfl <;> simp at hd <;> (subst hd; simp)
  · refine K3.rel_start (Φ := K3.Hop _ _ _ _ _ _ _) ?_
    refine K3.rel_cons (Φ := K3.Hop _ _ _ _ _ _ _) (k := 0) ?_ ?_
    · intro fa fw hfB hfN hfE hfk hft
      have k0 : fa.eval (.tmp 0) = .pointer (some ⟨b, 0, none⟩) := hft 0 (K3.mem_looks (by kernel_rfl)) (K3.noneed (by kernel_rfl))
      rw [hRs]
      refine K3.hop_plain rfl ?_
      refine K3.out_move rfl ?_
      exact ⟨k0, Below.refl _ _⟩
    refine K3.rel_cons (Φ := K3.Hop _ _ _ _ _ _ _) (k := 1) ?_ ?_
    · intro fa fw hfB hfN hfE hfk hft
      have k0 : fa.eval (.tmp 0) = .pointer (some ⟨b, 0, none⟩) := hft 0 (K3.mem_looks (by kernel_rfl)) (K3.noneed (by kernel_rfl))
      rw [hRs]
      refine K3.hop_plain rfl ?_
      refine K3.out_move rfl ?_
      exact ⟨k0, Below.refl _ _⟩
    refine K3.rel_cons (Φ := K3.Hop _ _ _ _ _ _ _) (k := 2) ?_ ?_
    · intro fa fw hfB hfN hfE hfk hft
      have k22 : fa.eval (.tmp 22) = (.pointer (some ⟨b, 0, none⟩)) := by have := hfk 1 (K3.mem_needs (by kernel_rfl)) _ rfl; rw [hRs] at this; exact this
      rw [hRs]
      refine K3.hop_plain rfl ?_
      generalize fa.eval = ρ at *
      exact K3.out_run (v := .pointer (some ⟨b, 0, none⟩)) (w' := fw) (by simp [execOp, k22, go_sem]) ⟨rfl, Below.refl _ _⟩
    refine K3.rel_cons (Φ := K3.Hop _ _ _ _ _ _ _) (k := 3) ?_ ?_
    · intro fa fw hfB hfN hfE hfk hft
      have k23 : fa.eval (.tmp 23) = (.pointer (some ⟨b, 0, none⟩)) := by have := hfk 2 (K3.mem_needs (by kernel_rfl)) _ rfl; rw [hRs] at this; exact this
      rw [hRs]
      refine K3.hop_plain rfl ?_
      generalize fa.eval = ρ at *
      exact K3.out_run (v := .pointer (some ⟨b, 3, none⟩)) (w' := fw) (by simp [execOp, k23, go_sem]) ⟨rfl, Below.refl _ _⟩
    refine K3.rel_cons (Φ := K3.Hop _ _ _ _ _ _ _) (k := 4) ?_ ?_
    · intro fa fw hfB hfN hfE hfk hft
      have hE : Below w0.drew.heap.size w0.drew fw := hfE (by kernel_rfl)
      have k24 : fa.eval (.tmp 24) = (.pointer (some ⟨b, 3, none⟩)) := by have := hfk 3 (K3.mem_needs (by kernel_rfl)) _ rfl; rw [hRs] at this; exact this
      rw [hRs]
      refine K3.hop_plain rfl ?_
      have hbx := (hE.block b (Nat.lt_of_lt_of_le hlt hd4.size)).trans (show w0.drew.heap[b]? = _ from hbox)
      exact out_load3 rfl k24 (by simp [go_sem, block_cell hbx]) ⟨⟨rfl, .slice pt T.length ct, _, hbx, gen_own_below hoT (hd4.trans (hE.mono hd4.size)), gen_own_below hoM (hd4.trans (hE.mono hd4.size)), hap⟩, Below.refl _ _⟩
    refine K3.rel_cons (Φ := K3.Hop _ _ _ _ _ _ _) (k := 5) ?_ ?_
    · intro fa fw hfB hfN hfE hfk hft
      have k7 : fa.eval (.tmp 7) = .string x := hft 7 (K3.mem_looks (by kernel_rfl)) (K3.noneed (by kernel_rfl))
      rw [hRs]
      refine K3.hop_plain rfl ?_
      refine K3.out_move rfl ?_
      exact ⟨k7, Below.refl _ _⟩
    refine K3.rel_cons (Φ := K3.Hop _ _ _ _ _ _ _) (k := 6) ?_ ?_
    · intro fa fw hfB hfN hfE hfk hft
      have k0 : fa.eval (.tmp 0) = .pointer (some ⟨b, 0, none⟩) := hft 0 (K3.mem_looks (by kernel_rfl)) (K3.noneed (by kernel_rfl))
      rw [hRs]
      refine K3.hop_plain rfl ?_
      refine K3.out_move rfl ?_
      exact ⟨k0, Below.refl _ _⟩
    refine K3.rel_cons (Φ := K3.Hop _ _ _ _ _ _ _) (k := 7) ?_ ?_
    · intro fa fw hfB hfN hfE hfk hft
      have k27 : fa.eval (.tmp 27) = (.pointer (some ⟨b, 0, none⟩)) := by have := hfk 6 (K3.mem_needs (by kernel_rfl)) _ rfl; rw [hRs] at this; exact this
      rw [hRs]
      refine K3.hop_plain rfl ?_
      generalize fa.eval = ρ at *
      exact K3.out_run (v := .pointer (some ⟨b, 0, none⟩)) (w' := fw) (by simp [execOp, k27, go_sem]) ⟨rfl, Below.refl _ _⟩
    refine K3.rel_cons (Φ := K3.Hop _ _ _ _ _ _ _) (k := 8) ?_ ?_
    · intro fa fw hfB hfN hfE hfk hft
      have k28 : fa.eval (.tmp 28) = (.pointer (some ⟨b, 0, none⟩)) := by have := hfk 7 (K3.mem_needs (by kernel_rfl)) _ rfl; rw [hRs] at this; exact this
      rw [hRs]
      refine K3.hop_plain rfl ?_
      generalize fa.eval = ρ at *
      exact K3.out_run (v := .pointer (some ⟨b, 1, none⟩)) (w' := fw) (by simp [execOp, k28, go_sem]) ⟨rfl, Below.refl _ _⟩
    refine K3.rel_cons (Φ := K3.Hop _ _ _ _ _ _ _) (k := 9) ?_ ?_
    · intro fa fw hfB hfN hfE hfk hft
      have hE : Below w0.drew.heap.size w0.drew fw := hfE (by kernel_rfl)
      have k29 : fa.eval (.tmp 29) = (.pointer (some ⟨b, 1, none⟩)) := by have := hfk 8 (K3.mem_needs (by kernel_rfl)) _ rfl; rw [hRs] at this; exact this
      rw [hRs]
      refine K3.hop_plain rfl ?_
      have hbx := (hE.block b (Nat.lt_of_lt_of_le hlt hd4.size)).trans (show w0.drew.heap[b]? = _ from hbox)
      exact out_load3 rfl k29 (by simp [go_sem, block_cell hbx]) ⟨rfl, Below.refl _ _⟩
    refine K3.rel_cons (Φ := K3.Hop _ _ _ _ _ _ _) (k := 10) ?_ ?_
    · intro fa fw hfB hfN hfE hfk hft
      have k26 : fa.eval (.tmp 26) = (.string x) := by have := hfk 5 (K3.mem_needs (by kernel_rfl)) _ rfl; rw [hRs] at this; exact this
      have k30 : fa.eval (.tmp 30) = (.int .i64 (at_ : Nat)) := by have := hfk 9 (K3.mem_needs (by kernel_rfl)) _ rfl; rw [hRs] at this; exact this
      rw [hRs]
      refine K3.hop_plain rfl ?_
      generalize fa.eval = ρ at *
      exact K3.out_run (v := .agg (tkV (0, x, at_)).toArray) (w' := fw) (by unfold execOp; simp only [List.map_toArray, List.map_cons, List.map_nil, k26, k30, Sem.run_bind, build_nt, Result.andThen_ok, Sem.run_pure]) ⟨rfl, Below.refl _ _⟩
    refine K3.rel_cons (Φ := K3.Hop _ _ _ _ _ _ _) (k := 11) ?_ ?_
    · intro fa fw hfB hfN hfE hfk hft
      have k31 : fa.eval (.tmp 31) = (.agg (tkV (0, x, at_)).toArray) := by have := hfk 10 (K3.mem_needs (by kernel_rfl)) _ rfl; rw [hRs] at this; exact this
      rw [hRs]
      refine K3.hop_plain rfl ?_
      exact out_buildSlice3 rfl (by simp only [List.map_toArray, List.map_cons, List.map_nil, k31]) (slice_tk fw (0, x, at_)) ⟨⟨_, rfl, heap_alloc_new _ _⟩, (Below.refl _ _).alloc (Nat.le_refl _) _⟩
    refine K3.rel_cons (Φ := K3.Hop _ _ _ _ _ _ _) (k := 12) ?_ ?_
    · intro fa fw hfB hfN hfE hfk hft
      have k25 : (NBE b s at_ T M (.slice pm M.length cm)) (fa.eval (.tmp 25)) fw := by have := hfk 4 (K3.mem_needs (by kernel_rfl)) _ rfl; rw [hRs] at this; exact this
      have k32 : (K3.NewB 1 (tkV (0, x, at_)).toArray 31) (fa.eval (.tmp 32)) fw := by have := hfk 11 (K3.mem_needs (by kernel_rfl)) _ rfl; rw [hRs] at this; exact this
      rw [hRs]
      refine K3.hop_plain rfl ?_
      obtain ⟨hv0, hb0⟩ := k25
      obtain ⟨B1, hb1, hb2⟩ := k32
      rw [hv0] at hb0
      obtain ⟨tv0, u0, g1, g2, g3, g4⟩ := hb0.f
      obtain ⟨v', w', hr, ho, hg, ha⟩ := run_append_gen2 eltT fw (b + 1) _ _ _ _ [(0, x, at_)] g3 (LAt.block rfl rfl hb2) (by simp only [List.length_cons, List.length_nil]; omega) (by unfold maxLen; simp only [List.length_cons, List.length_nil]; omega) (by have := lt_of_block g1; omega)
      obtain ⟨q1, q2⟩ := hb0.grow ho hg ha
      exact out_append_k3 (.tmp 25) (.tmp 32) 23 rfl hv0 hb1 hr ⟨q1, q2⟩
    refine K3.rel_cons (Φ := K3.Hop _ _ _ _ _ _ _) (k := 13) ?_ ?_
    · intro fa fw hfB hfN hfE hfk hft
      have k21 : fa.eval (.tmp 21) = (.pointer (some ⟨b, 0, none⟩)) := by have := hfk 0 (K3.mem_needs (by kernel_rfl)) _ rfl; rw [hRs] at this; exact this
      rw [hRs]
      refine K3.hop_plain rfl ?_
      generalize fa.eval = ρ at *
      exact K3.out_run (v := .pointer (some ⟨b, 0, none⟩)) (w' := fw) (by simp [execOp, k21, go_sem]) ⟨rfl, Below.refl _ _⟩
    refine K3.rel_cons (Φ := K3.Hop _ _ _ _ _ _ _) (k := 14) ?_ ?_
    · intro fa fw hfB hfN hfE hfk hft
      have k34 : fa.eval (.tmp 34) = (.pointer (some ⟨b, 0, none⟩)) := by have := hfk 13 (K3.mem_needs (by kernel_rfl)) _ rfl; rw [hRs] at this; exact this
      rw [hRs]
      refine K3.hop_plain rfl ?_
      generalize fa.eval = ρ at *
      exact K3.out_run (v := .pointer (some ⟨b, 3, none⟩)) (w' := fw) (by simp [execOp, k34, go_sem]) ⟨rfl, Below.refl _ _⟩
    refine K3.rel_cons (Φ := K3.Hop _ _ _ _ _ _ _) (k := 15) ?_ ?_
    · intro fa fw hfB hfN hfE hfk hft
      have k35 : fa.eval (.tmp 35) = (.pointer (some ⟨b, 3, none⟩)) := by have := hfk 14 (K3.mem_needs (by kernel_rfl)) _ rfl; rw [hRs] at this; exact this
      have k33 : (NB b s at_ T (M ++ [(0, x, at_)])) (fa.eval (.tmp 33)) fw := by have := hfk 12 (K3.mem_needs (by kernel_rfl)) _ rfl; rw [hRs] at this; exact this
      rw [hRs]
      refine K3.hop_plain rfl ?_
      obtain ⟨tv0, u0, g1, g2, g3, g4⟩ := k33.f
      obtain ⟨p6, c6, hv6⟩ := own_slice g3
      have hst := k33.store
      rw [hv6] at hst
      exact out_store1 rfl k35 (show fa.eval (.tmp 33) = _ from hv6) g1 (by simp) ⟨⟨hst⟩, (Below.refl b fw).setCell (p := ⟨b, 3, none⟩) (Nat.le_refl b) _⟩
    exact K3.rel_nil
  · intro fa fw hfB hfy hff hfs hfd
    rw [hRs] at hfy
    have k35 : LF_ b s at_ T (M ++ [(0, x, at_)]) (fa.tmps.getD 35 undef) fw := hfy 15 _ rfl (K3.unkilled (by decide))
    have hBf : Below b w fw := hBq0.trans ((hd4.mono (by omega)).trans hfB)
    have e := K3.rel_frame [21, 22, 23, 24, 25, 26, 27, 28, 29, 30, 31, 32, 33, 34, 35] (by kernel_rfl) hff hfs hfd
    simp only [List.foldl] at e
    clear hfy hff hfs hfd 
    generalize fa.tmps.getD 21 undef = x21 at e
    generalize fa.tmps.getD 22 undef = x22 at e
    generalize fa.tmps.getD 23 undef = x23 at e
    generalize fa.tmps.getD 24 undef = x24 at e
    generalize fa.tmps.getD 25 undef = x25 at e
    generalize fa.tmps.getD 26 undef = x26 at e
    generalize fa.tmps.getD 27 undef = x27 at e
    generalize fa.tmps.getD 28 undef = x28 at e
    generalize fa.tmps.getD 29 undef = x29 at e
    generalize fa.tmps.getD 30 undef = x30 at e
    generalize fa.tmps.getD 31 undef = x31 at e
    generalize fa.tmps.getD 32 undef = x32 at e
    generalize fa.tmps.getD 33 undef = x33 at e
    generalize fa.tmps.getD 34 undef = x34 at e
    generalize fa.tmps.getD 35 undef = x35 at e k35
    simp [List.setIfInBounds_toArray, List.set_cons_succ, List.set_cons_zero] at e
    subst e
    have k36 := k35.f
    clear k35
    have HXN := Lib.hid (show (M ++ [(0, x, at_)]) = M ++ [(0, s.extract at_ e, at_)] by rw [HXq.out])
    have HLn := Lib.hid k36
    have HBn := Lib.hid hBf
    have HXq2 := Lib.hid (fun w1 => HC.out w1)
    clear k36 hBf hBq0 hd4 hbox hoT hoM hap
    cases hlf : hasLF s at_ e with
    | true =>
      rw [hlf] at HC
      have HTT := Lib.hid (show T2 = feedL T at_ by rw [HT2.out, if_pos hlf])
      clear hlf
      go_wp2_with fail
      refine (HC.out _).mono ?_
      rintro r w1 ⟨rfl, rfl⟩
      have c1' := HLn.out.tx.c1
      go_wp2_with fail
      refine (feed_any b s at_ at_ T _ _ HLn.out (by omega) hs hT).mono ?_
      rintro r w2 ⟨rfl, hL2, hB2⟩
      have c1'' := hL2.tx.c1
      have f1 := hL2.frz 1
      have HS := Lib.hid (hL2.setAt (e := e))
      have HB := Lib.hid (HBn.out.trans (hB2.trans (((Below.refl b w2).setCell (p := ⟨b, 1, none⟩) (Nat.le_refl b) (.int .i64 e)))))
      clear hL2 hB2
      go_wp2_with fail
      go_ret
      exact ⟨rfl, by rw [← HXN.out, HTT.out]; exact HS.out, HB.out⟩
    | false =>
      rw [hlf] at HC
      have HTT := Lib.hid (show T2 = T by rw [HT2.out, if_neg (by rw [hlf]; decide)])
      clear hlf
      go_wp2_with fail
      refine (HC.out _).mono ?_
      rintro r w1 ⟨rfl, rfl⟩
      have c1'' := HLn.out.tx.c1
      have f1 := HLn.out.frz 1
      have HS := Lib.hid (HLn.out.setAt (e := e))
      have HB := Lib.hid (HBn.out.trans (((Below.refl b _).setCell (p := ⟨b, 1, none⟩) (Nat.le_refl b) (.int .i64 e))))
      go_wp2_with fail
      go_ret
      exact ⟨rfl, by rw [← HXN.out, HTT.out]; exact HS.out, HB.out⟩
end Go.Proofs.YtejogobhnbjpdaaDoor
