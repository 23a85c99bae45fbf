/- The document's device: New, Arm, Names, begins, ends, Read. -/
import Derived.Test.YtfmcemedaehcoaaXf
namespace Go.Proofs.Ytfmcemedaehcoaa
set_option linter.unusedVariables false
set_option linter.unusedSimpArgs false
open Go.ChangeShapes Go.WideShapes Go.ChangeAt Go.RowKit Go.ChangeMaps

theorem Rd.keepC {S : Nat → Prop} {w0 : World} {b : Nat} {h : Hd} {A : List Ab} {w : World} (d : Rd S w0 b h A w) : (∀ w1, Below w.heap.size w w1 → (loadVar 3 ⟨b, 5, none⟩).run Try.prog w1 = .ok (.int .i64 h.keep) w1) ∧ (∀ w1, Below w.heap.size w w1 → (loadVar 4 ⟨b, 6, none⟩).run Try.prog w1 = .ok (.bool h.torn) w1) := by
  obtain ⟨v, hb, _⟩ := d.r
  exact ⟨fun w1 h1 => by have e := block_cell ((h1.block b (lt_of_block hb)).trans hb) 5; simp [go_sem, e, rV], fun w1 h1 => by have e := block_cell ((h1.block b (lt_of_block hb)).trans hb) 6; simp [go_sem, e, rV]⟩
theorem Rd.filesC {S : Nat → Prop} {w0 : World} {b : Nat} {h : Hd} {A : List Ab} {w : World} (d : Rd S w0 b h A w) : ∃ v, LAt 3 fV w v A ∧ w.heap[b]? = some (.cells (rV h v) 36 (0, 0)) ∧ ∀ w1, Below w.heap.size w w1 → (loadVar 34 ⟨b, 0, none⟩).run Try.prog w1 = .ok v w1 := by
  obtain ⟨v, hb, hl, _⟩ := d.r
  obtain ⟨p, c, rfl⟩ := hl.shape
  exact ⟨_, hl, hb, fun w1 h1 => by have e := block_cell ((h1.block b (lt_of_block hb)).trans hb) 0; simp [go_sem, e, rV]⟩
theorem newR_made (w : World) (room : Int) : Rd (fun _ => False) w w.heap.size ⟨room, 0, false, 0, 0, false⟩ [] (w.alloc (.cells #[.slice none 0 0, .int .i64 room, .bool false, .int .i64 0, .int .i64 0, .int .i64 0, .bool false] 36)) := by
  have hB : Below w.heap.size w (w.alloc (.cells #[.slice none 0 0, .int .i64 room, .bool false, .int .i64 0, .int .i64 0, .int .i64 0, .bool false] 36)) := (Below.refl _ _).alloc (Nat.le_refl _) _
  exact ⟨⟨.slice none 0 0, heap_alloc_new _ _, ⟨fun x hx => fV_len x, .inl ⟨none, 0, rfl, rfl⟩⟩, fun g hg => by cases hg⟩, .inr ⟨Nat.le_refl _, by simp⟩, Kept.of_below hB⟩
set_option maxRecDepth 100000 in
set_option maxHeartbeats 2000000 in
theorem newR_any (room : Int) (w : World) : Calls Try.prog 13 #[.int .i64 room] w fun e w' => e = .returned (.pointer (some ⟨w.heap.size, 0, none⟩)) ∧ Rd (fun _ => False) w w.heap.size (newH room) [] w' := by
  unfold newH
  by_cases h1 : room < 0
  · have g1 : decide (room < 0) = true := decide_eq_true h1
    have HR := Lib.hid (newR_made w 0)
    rw [show min (max room 0) 1048576 = 0 by omega]
    go_enter Try.func13, Try.ntmps13
    go_wp2_with fail
    go_ret
    exact ⟨rfl, HR.out⟩
  · have g1 : decide (room < 0) = false := decide_eq_false h1
    by_cases h2 : 1048576 < room
    · have g2 : decide (1048576 < room) = true := decide_eq_true h2
      have HR := Lib.hid (newR_made w 1048576)
      rw [show min (max room 0) 1048576 = 1048576 by omega]
      go_enter Try.func13, Try.ntmps13
      go_wp2_with fail
      go_ret
      exact ⟨rfl, HR.out⟩
    · have g2 : decide (1048576 < room) = false := decide_eq_false h2
      have HR := Lib.hid (newR_made w room)
      rw [show min (max room 0) 1048576 = room by omega]
      go_enter Try.func13, Try.ntmps13
      go_wp2_with fail
      go_ret
      exact ⟨rfl, HR.out⟩
set_option maxRecDepth 100000 in
set_option maxHeartbeats 2000000 in
theorem armR_any {S : Nat → Prop} {w0 : World} {b : Nat} {h : Hd} {A : List Ab} {w : World} (d : Rd S w0 b h A w) (n k : Int) (t : Bool) : Calls Try.prog 38 #[.pointer (some ⟨b, 0, none⟩), .int .i64 n, .int .i64 k, .bool t] w fun e w' => e = .returned (.tuple #[]) ∧ Rd S w0 b { h with left := max n 0, keep := k, torn := t } A w' := by
  obtain ⟨room, acts, down, left, keep, torn⟩ := h
  obtain ⟨v, hb, _⟩ := d.r
  simp only
  by_cases hn : 0 < n
  · have g1 : decide (0 < n) = true := decide_eq_true hn
    rw [show max n 0 = n by omega]
    have f0 := block_free hb 4
    have c0 := block_cell hb 4
    have z0 := block_set (i := 4) (u := .int .i64 0) hb
    have f1 := block_free z0 4
    have c1 := block_cell z0 4
    have z1 := block_set (i := 4) (u := .int .i64 n) z0
    have f2 := block_free z1 5
    have c2 := block_cell z1 5
    have z2 := block_set (i := 5) (u := .int .i64 k) z1
    have f3 := block_free z2 6
    have c3 := block_cell z2 6
    have z3 := block_set (i := 6) (u := .bool t) z2
    have HO := Lib.hid ((((d.set (h' := ⟨room, acts, down, 0, keep, torn⟩) 4 (.int .i64 0) (fun v => rfl)).set (h' := ⟨room, acts, down, n, keep, torn⟩) 4 (.int .i64 n) (fun v => rfl)).set (h' := ⟨room, acts, down, n, k, torn⟩) 5 (.int .i64 k) (fun v => rfl)).set (h' := ⟨room, acts, down, n, k, t⟩) 6 (.bool t) (fun v => rfl))
    clear hb z0 z1 z2 z3 d
    go_enter Try.func38, Try.ntmps38
    go_wp2_with fail
    exact bodyPost_end (v := .tuple #[]) (by simp [results, Try.results38]) rfl ⟨rfl, HO.out⟩
  · have g1 : decide (0 < n) = false := decide_eq_false hn
    rw [show max n 0 = 0 by omega]
    have f0 := block_free hb 4
    have c0 := block_cell hb 4
    have z0 := block_set (i := 4) (u := .int .i64 0) hb
    have f1 := block_free z0 5
    have c1 := block_cell z0 5
    have z1 := block_set (i := 5) (u := .int .i64 k) z0
    have f2 := block_free z1 6
    have c2 := block_cell z1 6
    have z2 := block_set (i := 6) (u := .bool t) z1
    have HO := Lib.hid (((d.set (h' := ⟨room, acts, down, 0, keep, torn⟩) 4 (.int .i64 0) (fun v => rfl)).set (h' := ⟨room, acts, down, 0, k, torn⟩) 5 (.int .i64 k) (fun v => rfl)).set (h' := ⟨room, acts, down, 0, k, t⟩) 6 (.bool t) (fun v => rfl))
    clear hb z0 z1 z2 d
    go_enter Try.func38, Try.ntmps38
    go_wp2_with fail
    exact bodyPost_end (v := .tuple #[]) (by simp [results, Try.results38]) rfl ⟨rfl, HO.out⟩
set_option maxRecDepth 100000 in
set_option maxHeartbeats 2000000 in
theorem namesR_any {S : Nat → Prop} {w0 : World} {b : Nat} {h : Hd} {A : List Ab} {w : World} (d : Rd S w0 b h A w) (hn : A.length ≤ 1048576) : Calls Try.prog 21 #[.pointer (some ⟨b, 0, none⟩)] w fun e w' => ∃ v, e = .returned v ∧ w'.ownsRow w.heap.size 9 1 v A.length (LF sV (A.map (·.1))) ∧ Below w.heap.size w w' := by
  obtain ⟨v, hb, hl, _⟩ := d.r
  obtain ⟨p, c, rfl⟩ := hl.shape
  have c0 : w.cell? ⟨b, 0, none⟩ = some (.slice p A.length c) := block_cell hb 0
  have HL := Lib.hid hl
  clear hl hb d
  go_enter Try.func21, Try.ntmps21
  go_wp2_with fail
  go_loopg [3, 11] A.length (fun gg vo vi wr => ∃ (i : Nat) (ns : List ByteArray), vi = .int .i64 i ∧ i + gg = A.length ∧ ns = (A.take i).map (·.1) ∧ wr.ownsRow w.heap.size 9 1 vo ns.length (LF sV ns) ∧ Below w.heap.size w wr)
  case atStart => exact ⟨0, [], rfl, by omega, by simp, ⟨by simp [LF], .inl ⟨rfl, rfl⟩⟩, Below.refl _ _⟩
  case round =>
    obtain ⟨i, ns, rfl, hig, hM, ho, hB⟩ := hrel
    have hnl : ns.length ≤ i := by rw [hM, List.length_map, List.length_take]; omega
    by_cases hlt : i < A.length
    · have hltI : (i : Int) < (A.length : Nat) := by omega
      obtain ⟨g, o, c', he, hg, hc, hrg, hob⟩ := HL.out.file hlt
      injection he with he1 _ he2
      subst he1 he2
      have Hrg := Lib.hid (range_below hrg hB hg)
      have HM := Lib.hid (show ns ++ [A[i].1] = (A.take (i + 1)).map (·.1) by rw [List.take_succ_eq_append_getElem hlt, List.map_append, hM]; rfl)
      have HB := Lib.hid hB
      have Ho := Lib.hid ho
      generalize A[i] = y at *
      clear hrg hB hM ho
      go_wp2_with (first | (refine wpList_load_mid rfl 68 (.tmp 13) rfl g (o + i * 3) rfl (fV y) _ Hrg.out Try.underlying68 rfl (by rw [fV_len]; kernel_rfl) ?_) | (refine wpList_store_rowTo rfl 68 (.tmp 5) (.tmp 14) rfl rfl wr.heap.size (fV y).toArray rfl rfl 68 _ (heap_alloc_new wr _) (fV_size y) rfl (fV_all y) ?_; refine box_absL (boxL_made wr _ (fV y)) ?_; intro wx hbx; have HBx := Lib.hid hbx; have d0 : wx.cell? ⟨wr.heap.size, 0, none⟩ = some (.string y.1) := block_cell hbx.h 0; have HBo := Lib.hid (rowS_of Ho.out (fun g hg => hbx.b.block g ((Ho.out.lt g hg).2))); have HBw := Lib.hid (HB.out.trans (HBx.out.b.mono HB.out.size)); clear hbx) | (at_builtin; refine wpList_append_gen eltS rfl (.tmp 15) (.tmp 18) rfl rfl w.heap.size _ ns rfl (gen_own_below HBo.out ((Below.refl _ _).alloc (Nat.le_refl _) _)) _ [y.1] (LAt.block rfl rfl (heap_alloc_new _ _)) rfl (by simp only [List.length_cons, List.length_nil]; omega) (by unfold maxLen; simp only [List.length_cons, List.length_nil]; omega) (by have := HBw.out.size; simp; omega) ?_; intro v3 w3 ho3 hg3; have Ho3 := Lib.hid ho3; have HB3 := Lib.hid ((HBw.out.alloc HBw.out.size (.cells #[.string y.1] 9)).grown hg3 (by have := HBw.out.size; simp; omega) (fun k hk => (HBo.out.lt k hk).1)); clear ho3 hg3))
      go_roundg (gk - 1)
      case measure => omega
      case rel => exact ⟨i + 1, ns ++ [y.1], by go_num, by omega, HM.out, Ho3.out, HB3.out⟩
    · have hltI : ¬ (i : Int) < (A.length : Nat) := by omega
      have hMA : ns = A.map (·.1) := by rw [hM, List.take_of_length_le (by omega)]
      have hlA : ns.length = A.length := by rw [hMA, List.length_map]
      rw [hlA, hMA] at ho
      have Ho := Lib.hid ho
      have HB := Lib.hid hB
      clear hM hMA hlA ho hB
      go_wp2_with fail
      go_ret
      exact ⟨_, rfl, Ho.out, HB.out⟩
def doneR (h : Hd) : Bool := !decide (h.left = 1) || decide (0 < h.keep)
set_option maxRecDepth 100000 in
set_option maxHeartbeats 2000000 in
theorem begins_any {S : Nat → Prop} {w0 : World} {b : Nat} {h : Hd} {A : List Ab} {w : World} (d : Rd S w0 b h A w) (hl : 0 ≤ h.left ∧ h.left ≤ 9223372036854775807) (ha : 0 ≤ h.acts ∧ h.acts ≤ 1099511627776) :
    Calls Try.prog 55 #[.pointer (some ⟨b, 0, none⟩)] w fun e w' => e = .returned (.tuple #[.bool (doneR h), .bool (decide (h.left = 1))]) ∧ Rd S w0 b (actH h) A w' ∧ w'.heap.size = w.heap.size := by
  have HA := Lib.hid (actR_any d hl ha)
  unfold doneR
  clear d
  by_cases h1 : h.left = 1
  · rw [decide_eq_true h1] at HA ⊢
    by_cases hk : 0 < h.keep
    · rw [decide_eq_true hk]
      have g1 : decide (0 < h.keep) = true := decide_eq_true hk
      go_enter Try.func55, Try.ntmps55
      go_wp2_with fail
      refine HA.out.mono ?_
      rintro e w1 ⟨rfl, d1, hz⟩
      have D1 := Lib.hid d1
      have hk := d1.keepC.1 w1 (Below.refl _ _)
      obtain ⟨v1, hb1, _⟩ := d1.r
      have c5 : w1.cell? ⟨b, 5, none⟩ = some (.int .i64 h.keep) := block_cell hb1 5
      have HZ := Lib.hid hz
      clear d1 hb1 hk hz
      go_wp2_with fail
      exact bodyPost_ret (v := .tuple #[.bool true, .bool true]) (by simp [results, Try.results55]) rfl ⟨rfl, D1.out, HZ.out⟩
    · rw [decide_eq_false hk]
      have g1 : decide (0 < h.keep) = false := decide_eq_false hk
      go_enter Try.func55, Try.ntmps55
      go_wp2_with fail
      refine HA.out.mono ?_
      rintro e w1 ⟨rfl, d1, hz⟩
      have D1 := Lib.hid d1
      have hk := d1.keepC.1 w1 (Below.refl _ _)
      obtain ⟨v1, hb1, _⟩ := d1.r
      have c5 : w1.cell? ⟨b, 5, none⟩ = some (.int .i64 h.keep) := block_cell hb1 5
      have HZ := Lib.hid hz
      clear d1 hb1 hk hz
      go_wp2_with fail
      exact bodyPost_ret (v := .tuple #[.bool false, .bool true]) (by simp [results, Try.results55]) rfl ⟨rfl, D1.out, HZ.out⟩
  · rw [decide_eq_false h1] at HA ⊢
    go_enter Try.func55, Try.ntmps55
    go_wp2_with fail
    refine HA.out.mono ?_
    rintro e w1 ⟨rfl, d1, hz⟩
    have D1 := Lib.hid d1
    have hk := d1.keepC.1 w1 (Below.refl _ _)
    obtain ⟨v1, hb1, _⟩ := d1.r
    have c5 : w1.cell? ⟨b, 5, none⟩ = some (.int .i64 h.keep) := block_cell hb1 5
    have HZ := Lib.hid hz
    clear d1 hb1 hk hz
    go_wp2_with fail
    exact bodyPost_ret (v := .tuple #[.bool true, .bool false]) (by simp [results, Try.results55]) rfl ⟨rfl, D1.out, HZ.out⟩
/-- What is asked of the document's device. -/
structure ROk (h : Hd) (A : List Ab) : Prop where
  hd : HdOk h
  k : -9223372036854775808 ≤ h.keep ∧ h.keep ≤ 9223372036854775807
  t : totA A ≤ 1048576
  n : A.length ≤ 1048575
  s : ∀ y ∈ A, y.2.2 ≤ y.2.1.length
set_option maxRecDepth 100000 in
set_option maxHeartbeats 2000000 in
theorem ends_any {S : Nat → Prop} {w0 : World} {b : Nat} {h : Hd} {A : List Ab} {w : World} (d : Rd S w0 b h A w) (hdn : h.down = false) (hn : A.length ≤ 1048576) (ht : totA A ≤ 1048576) (hsf : ∀ y ∈ A, y.2.2 ≤ y.2.1.length) (hk : -9223372036854775808 ≤ h.keep ∧ h.keep ≤ 9223372036854775807) (gs : Bool) :
    Calls Try.prog 56 #[.pointer (some ⟨b, 0, none⟩), .bool gs] w fun e w' => e = .returned (.int .i64 (if gs = true then 7 else 0)) ∧ Rd S w0 b (if gs = true then offR h else h) (if gs = true then A.map (loseA h.keep h.torn) else A) w' := by
  cases gs
  · have D := Lib.hid d
    go_enter Try.func56, Try.ntmps56
    go_wp2_with fail
    go_ret
    exact ⟨rfl, D.out⟩
  · have D := Lib.hid d
    have C5 := Lib.hid d.keepC.1
    have C6 := Lib.hid d.keepC.2
    have HS := Lib.hid hsf
    clear d hsf
    go_enter Try.func56, Try.ntmps56
    go_wp2_with fail
    refine wp_region_class_tail (Below w.heap.size w) 9 (by kernel_rfl) (by kernel_rfl) (Below.refl _ _).drew ?_
    simp only [List.take_succ_cons, List.take_zero, List.drop_succ_cons, List.drop_zero]
    repeat (go_big_quiet_step (first | (intro _; rfl)))
    refine wpQuiet_load_at rfl 3 (.tmp 9) rfl ⟨b, 5, none⟩ rfl _ C5.out ?_
    simp only [Act.put, List.setIfInBounds_toArray, List.set_cons_succ, List.set_cons_zero]
    repeat (go_big_quiet_step (first | (intro _; rfl)))
    refine wpQuiet_load_at rfl 4 (.tmp 13) rfl ⟨b, 6, none⟩ rfl _ C6.out ?_
    simp only [Act.put, List.setIfInBounds_toArray, List.set_cons_succ, List.set_cons_zero]
    repeat (go_big_quiet_step (first | (intro _; rfl)))
    refine wpQuiet_nil ?_
    intro wz hz
    have Dz := Lib.hid (D.out.below hz)
    clear hz
    go_wp2_with fail
    refine (loseR_any Dz.out hdn hn ht HS.out h.keep h.torn hk).mono ?_
    rintro e w9 ⟨rfl, d9⟩
    have D9 := Lib.hid d9
    clear d9
    go_wp2_with fail
    go_ret
    exact ⟨rfl, D9.out⟩
set_option maxRecDepth 100000 in
set_option maxHeartbeats 2000000 in
theorem readR_any {S : Nat → Prop} {w0 : World} {b : Nat} {h : Hd} {A : List Ab} {w : World} (d : Rd S w0 b h A w) (hn : A.length ≤ 1048576) (x : ByteArray) :
    Calls Try.prog 24 #[.pointer (some ⟨b, 0, none⟩), .string x] w fun e w' => e = .returned (.tuple #[.string (if findA h A x = 0 then mkB (match lookA A x with | some y => y.2.1 | none => []) else ⟨#[]⟩), .int .i64 (findA h A x)]) ∧ Below w.heap.size w w' := by
  have HM := Lib.hid (may_there d hn x)
  have D := Lib.hid d
  by_cases hf : findA h A x = 0
  · rw [if_pos hf]
    have hlk : (lookA A x).isSome = true := by
      unfold findA at hf
      split at hf
      · rename_i h1; exact absurd hf h1
      · split at hf
        · rename_i h2; exact h2
        · cases hf
    rw [hf] at HM ⊢
    rcases @idx_look A x with ⟨h1, h2⟩ | ⟨i, hi, h1, h2, h3⟩
    · rw [h2] at hlk; cases hlk
    · rw [h2]
      obtain ⟨y, hy⟩ : ∃ y, A[i] = y := ⟨_, rfl⟩
      simp only [hy]
      have HY := Lib.hid hy
      clear hlk hf d hy
      go_enter Try.func24, Try.ntmps24
      go_wp2_with fail
      refine HM.out.mono ?_
      rintro e w1 ⟨rfl, hB⟩
      have HB := Lib.hid hB
      have d1 := D.out.below hB
      obtain ⟨v, hl, hb, hrun⟩ := d1.filesC
      obtain ⟨g, o, c', rfl, hg, hc, hrg, hob⟩ := hl.file hi
      rw [HY.out] at hrg
      have HRun := Lib.hid hrun
      have HAt : Hid (∀ w9, Below w1.heap.size w1 w9 → Calls Try.prog 43 #[.pointer (some ⟨b, 0, none⟩), .string x] w9 fun e w' => e = .returned (.int .i64 (i : Nat)) ∧ Below w1.heap.size w1 w') := Lib.hid (fun w9 h9 => by have h := at_any ((h9.block b (lt_of_block hb)).trans hb) (hl.below h9) hn x; rw [h1] at h; exact h.mono (fun e w' ⟨he, hw⟩ => ⟨he, h9.trans (hw.mono h9.size)⟩))
      have HFl := Lib.hid (fun w9 (h9 : Below w1.heap.size w1 w9) => by have e := (h9.cell (p := ⟨g, o + i * 3 + 1, none⟩) hg).trans (hrg 1 _ rfl); simp [go_sem, e] : ∀ w9, Below w1.heap.size w1 w9 → (loadVar 9 ⟨g, o + i * 3 + 1, none⟩).run Try.prog w9 = .ok (.string (mkB y.2.1)) w9)
      clear hl hb hrun hrg hB d1 h1 h2 h3
      have hltI : (i : Int) < (A.length : Nat) := by omega
      go_wp2_with fail
      refine wp_region_class (Below w1.heap.size w1) (by kernel_rfl) (by kernel_rfl) (Below.refl _ _).drew ?_
      repeat (go_big_quiet_step (first | (intro _; rfl)))
      refine wpQuiet_load_at rfl 34 (.tmp 15) rfl ⟨b, 0, none⟩ rfl _ HRun.out ?_
      simp only [Act.put, List.setIfInBounds_toArray, List.set_cons_succ, List.set_cons_zero]
      repeat (go_big_quiet_step (first | (intro _; rfl) | (intro hq; exact HAt.out _ hq)))
      refine wpQuiet_load_at rfl 9 (.tmp 21) rfl ⟨g, o + i * 3 + 1, none⟩ rfl _ HFl.out ?_
      simp only [Act.put, List.setIfInBounds_toArray, List.set_cons_succ, List.set_cons_zero]
      repeat (go_big_quiet_step (first | (intro _; rfl)))
      refine wpQuiet_nil ?_
      intro wz hz
      have HZ := Lib.hid (HB.out.trans (hz.mono HB.out.size))
      clear hz
      go_wp2_with fail
      exact bodyPost_ret (v := .tuple #[.string (mkB y.2.1), .int .i64 0]) (by simp [results, Try.results24]) rfl ⟨rfl, HZ.out⟩
  · rw [if_neg hf]
    generalize findA h A x = r at *
    have hrb : (r != 0) = true := by simpa using hf
    clear hf d
    go_enter Try.func24, Try.ntmps24
    go_wp2_with fail
    refine HM.out.mono ?_
    rintro e w1 ⟨rfl, hB⟩
    have HB := Lib.hid hB
    clear hB
    go_wp2_with fail
    exact bodyPost_ret (v := .tuple #[.string ⟨#[]⟩, .int .i64 r]) (by simp [results, Try.results24]) rfl ⟨rfl, HB.out⟩
end Go.Proofs.Ytfmcemedaehcoaa
