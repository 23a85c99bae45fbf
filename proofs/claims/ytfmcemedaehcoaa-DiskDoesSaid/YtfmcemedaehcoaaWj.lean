/- Walks: Append, Sync. -/
import Derived.Test.YtfmcemedaehcoaaWi
namespace Go.Proofs.Ytfmcemedaehcoaa
set_option linter.unusedVariables false
set_option linter.unusedSimpArgs false
open Go.ChangeShapes Go.WideShapes Go.ChangeAt Go.RowKit Go.ChangeMaps

/-- What a call that does an act leads to: it is refused with 'pre', or the act is done. -/
structure OpR (S : Nat → Prop) (b : Nat) (h : Hd) (L : List Fl) (pre stays : Int) (E : List Fl → Prop) (w : World) (e : Ending) (w' : World) : Prop where
  r : (pre ≠ 0 ∧ e = .returned (.int .i64 pre) ∧ Dev (Gr S w w') b h L w' ∧ Kept S w w') ∨ (pre = 0 ∧ ActR S b h L stays E w e w')
theorem ActR.of {S : Nat → Prop} {b : Nat} {h : Hd} {L : List Fl} {stays : Int} {E : List Fl → Prop} {w0 w w' : World} {e : Ending} (a : ActR S b h L stays E w e w') (hB : Below w0.heap.size w0 w) : ActR S b h L stays E w0 e w' := by
  have hg : ∀ k, Gr S w w' k → Gr S w0 w' k := fun k hk => hk.imp id (fun x => ⟨Nat.le_trans hB.size x.1, x.2⟩)
  refine ⟨?_, (Kept.of_below hB).trans' a.k⟩
  rcases a.r with ⟨h1, h2, L2, h3, h4⟩ | ⟨h1, h2, L2, h3, h4⟩
  · exact .inl ⟨h1, h2, L2, h3, h4.mono hg⟩
  · exact .inr ⟨h1, h2, L2, h3, h4.mono hg⟩
theorem total_le {L : List Fl} {f : Fl} (hf : f ∈ L) : f.d.length ≤ total L := by
  unfold total
  induction L with
  | nil => cases hf
  | cons g r ih =>
    rcases List.mem_cons.1 hf with rfl | h
    · simp
    · have := ih h; simp only [List.map_cons, List.sum_cons]; omega
theorem datL_le {L : List Fl} {x : ByteArray} : (datL L x).length ≤ total L := by
  unfold datL
  cases hl : look L x with
  | none => simp
  | some f => exact total_le (look_some hl).1
theorem Apd.le {L L2 : List Fl} {x : ByteArray} {c : List UInt8} (h : Apd L x c L2) {N : Nat} (ht : total L ≤ N) (hc : c.length ≤ N) : ∀ f ∈ L2, f.d.length ≤ N + N := by
  obtain ⟨f', h1, h2, h3, rfl⟩ := h
  intro g hg
  rcases upd_mem hg with rfl | ⟨hg, _⟩
  · have := @datL_le L x
    rw [h2, List.length_append]; omega
  · have := total_le hg; omega
/-- The bytes of a slice. -/
structure Byt (S : Nat → Prop) (w : World) (u : Value) (c : List UInt8) : Prop where
  a : ∀ w1, Kept S w w1 → LAt 1 bV w1 u c
theorem Byt.slice {S : Nat → Prop} {w : World} {u : Value} {c : List UInt8} (h : Byt S w u c) : ∃ pu cu, u = .slice pu c.length cu := by
  rcases (h.a w (Kept.refl _ _)).2 with ⟨pp, cap, e, rfl⟩ | ⟨bb, off, cap, e, _⟩
  · exact ⟨_, _, e⟩
  · exact ⟨_, _, e⟩
theorem Byt.kept {S : Nat → Prop} {w w' : World} {u : Value} {c : List UInt8} (h : Byt S w u c) (hk : Kept S w w') : Byt S w' u c := ⟨fun w1 h1 => h.a w1 (hk.trans' h1)⟩
theorem boxes3 (w : World) (v1 v2 v3 : Value) (t1 t2 t3 : TypeId) : Hid (Below w.heap.size w (((w.alloc (.cells #[v1] t1)).alloc (.cells #[v2] t2)).alloc (.cells #[v3] t3)) ∧
    (((w.alloc (.cells #[v1] t1)).alloc (.cells #[v2] t2)).alloc (.cells #[v3] t3)).heap[w.heap.size]? = some (.cells #[v1] t1 (0, 0)) ∧
    (((w.alloc (.cells #[v1] t1)).alloc (.cells #[v2] t2)).alloc (.cells #[v3] t3)).heap[w.heap.size + 1]? = some (.cells #[v2] t2 (0, 0)) ∧
    (((w.alloc (.cells #[v1] t1)).alloc (.cells #[v2] t2)).alloc (.cells #[v3] t3)).heap[w.heap.size + 1 + 1]? = some (.cells #[v3] t3 (0, 0))) := by
  have b1 : Below w.heap.size w (w.alloc (.cells #[v1] t1)) := (Below.refl _ w).alloc (Nat.le_refl _) _
  have b2 : Below w.heap.size w ((w.alloc (.cells #[v1] t1)).alloc (.cells #[v2] t2)) := b1.alloc b1.size _
  have s1 : (w.alloc (.cells #[v1] t1)).heap.size = w.heap.size + 1 := by simp
  have s2 : ((w.alloc (.cells #[v1] t1)).alloc (.cells #[v2] t2)).heap.size = w.heap.size + 1 + 1 := by simp
  have n1 : (w.alloc (.cells #[v1] t1)).heap[w.heap.size]? = some (.cells #[v1] t1 (0, 0)) := heap_alloc_new _ _
  have n2 : ((w.alloc (.cells #[v1] t1)).alloc (.cells #[v2] t2)).heap[(w.alloc (.cells #[v1] t1)).heap.size]? = some (.cells #[v2] t2 (0, 0)) := heap_alloc_new _ _
  have n3 : (((w.alloc (.cells #[v1] t1)).alloc (.cells #[v2] t2)).alloc (.cells #[v3] t3)).heap[((w.alloc (.cells #[v1] t1)).alloc (.cells #[v2] t2)).heap.size]? = some (.cells #[v3] t3 (0, 0)) := heap_alloc_new _ _
  have d1 : Below (w.alloc (.cells #[v1] t1)).heap.size (w.alloc (.cells #[v1] t1)) ((w.alloc (.cells #[v1] t1)).alloc (.cells #[v2] t2)) := (Below.refl _ _).alloc (Nat.le_refl _) _
  have d2 : Below ((w.alloc (.cells #[v1] t1)).alloc (.cells #[v2] t2)).heap.size ((w.alloc (.cells #[v1] t1)).alloc (.cells #[v2] t2)) (((w.alloc (.cells #[v1] t1)).alloc (.cells #[v2] t2)).alloc (.cells #[v3] t3)) := (Below.refl _ _).alloc (Nat.le_refl _) _
  rw [s1] at n2
  rw [s2] at n3
  exact Lib.hid ⟨b2.alloc b2.size _, (d2.block _ (by rw [s2]; omega)).trans ((d1.block _ (by rw [s1]; omega)).trans n1), (d2.block _ (by rw [s2]; omega)).trans n2, n3⟩
set_option maxRecDepth 100000 in
set_option maxHeartbeats 1000000 in
theorem append_any {S : Nat → Prop} {b : Nat} {h : Hd} {L : List Fl} {w : World} (d : Dev S b h L w) (hS : ∀ k, S k → k < w.heap.size) (x : ByteArray) (u : Value) (c : List UInt8) (hu : Byt S w u c) (hr : 0 ≤ h.room ∧ h.room ≤ 1048576) (ht : total L ≤ 1048576)
    (hl : 0 ≤ h.left ∧ h.left ≤ 9223372036854775807) (ha : 0 ≤ h.acts ∧ h.acts ≤ 1099511627776) (hLn : L.length ≤ 1048576) (hcl : c.length ≤ 16777216) :
    Calls Try.prog 27 #[.pointer (some ⟨b, 0, none⟩), .string x, u] w (OpR S b h L (if readyE h x ≠ 0 then readyE h x else if h.room - (total L : Nat) < (c.length : Nat) then 6 else 0) 0 (Apd L x c) w) := by
  obtain ⟨pu, cu, rfl⟩ := hu.slice
  have HB := boxes3 w (.pointer (some ⟨b, 0, none⟩)) (.string x) (.slice pu c.length cu) 25 9 29
  have HD := Lib.hid d
  have HR := Lib.hid (fun w1 (hB : Below w.heap.size w w1) => ready_any (d.below hB) x)
  have HF := Lib.hid (fun w1 (hB : Below w.heap.size w w1) => free_any (d.below hB) hr (by omega))
  have HU := Lib.hid hu
  have HL : Hid (∀ f ∈ L, f.d.length ≤ 16777216) := Lib.hid (fun f hf => by have := total_le hf; omega)
  have Hd := Lib.hid hu
  clear hu d
  by_cases hre : readyE h x = 0
  · rw [if_neg (by rw [hre]; simp)]
    rw [hre] at HR
    have hdn := (readyE_ok hre).1
    have hx := (goodN_size (readyE_ok hre).2).2
    clear hre
    by_cases hft : h.room - (total L : Nat) < (c.length : Nat)
    · rw [if_pos hft]
      have hgt : decide (h.room - (total L : Nat) < (c.length : Nat)) = true := decide_eq_true hft
      go_enter Try.func27, Try.ntmps27
      go_wp2_with fail
      generalize ((w.alloc (.cells #[.pointer (some ⟨b, 0, none⟩)] 25)).alloc (.cells #[.string x] 9)).alloc (.cells #[.slice pu c.length cu] 29) = wb at *
      refine (HR.out wb HB.out.1).mono ?_
      rintro e1 w1 ⟨rfl, rfl⟩
      have hB1 := HB.out.1
      have hb0 := HB.out.2.1
      have hb1 := HB.out.2.2.1
      have hb2 := HB.out.2.2.2
      have H0 := Lib.hid (fun w9 (h9 : Below wb.heap.size wb w9) => (by have e := (h9.cell (p := ⟨w.heap.size, 0, none⟩) (lt_of_block hb0)).trans (block_cell hb0 0); simp [go_sem, e] : (loadVar 25 ⟨w.heap.size, 0, none⟩).run Try.prog w9 = .ok (.pointer (some ⟨b, 0, none⟩)) w9))
      have H2 := Lib.hid (fun w9 (h9 : Below wb.heap.size wb w9) => (by have e := (h9.cell (p := ⟨(w.heap.size + 1 + 1), 0, none⟩) (lt_of_block hb2)).trans (block_cell hb2 0); simp [go_sem, e] : (loadVar 29 ⟨(w.heap.size + 1 + 1), 0, none⟩).run Try.prog w9 = .ok (.slice pu c.length cu) w9))
      have HC := Lib.hid (fun w9 (h9 : Below wb.heap.size wb w9) => (HF.out w9 (hB1.trans (h9.mono hB1.size))).mono (fun e9 w8 hh => (⟨hh.1, h9.trans (hh.2.mono h9.size)⟩ : e9 = .returned (.int .i64 (h.room - (total L : Nat))) ∧ Below wb.heap.size wb w8)))
      have Hb0 := Lib.hid hb0
      have Hb1 := Lib.hid hb1
      have Hb2 := Lib.hid hb2
      have HB1 := Lib.hid hB1
      clear hb0 hb1 hb2 hB1
      go_wp2_with fail
      refine wp_region_class (Below wb.heap.size wb) (by kernel_rfl) (by kernel_rfl) (Below.refl _ _).drew ?_
      refine wpQuiet_load_at rfl 29 (.tmp 5) rfl ⟨w.heap.size + 1 + 1, 0, none⟩ rfl (.slice pu c.length cu) H2.out ?_
      simp only [Act.put, List.setIfInBounds_toArray, List.set_cons_succ, List.set_cons_zero]
      repeat (go_big_quiet_step (first | (intro _; rfl)))
      refine wpQuiet_load_at rfl 25 (.tmp 3) rfl ⟨w.heap.size, 0, none⟩ rfl (.pointer (some ⟨b, 0, none⟩)) H0.out ?_
      simp only [Act.put, List.setIfInBounds_toArray, List.set_cons_succ, List.set_cons_zero]
      repeat (go_big_quiet_step (first | (intro _; rfl) | (intro hq; exact HC.out _ hq)))
      refine wpQuiet_nil ?_
      intro wq hq
      have Hq := Lib.hid hq
      clear hq
      go_wp2_with fail
      go_ret
      exact ⟨.inl ⟨by decide, rfl, (HD.out.below (HB1.out.trans (Hq.out.mono HB1.out.size))).mono (fun k hk => .inl hk), Kept.of_below (HB1.out.trans (Hq.out.mono HB1.out.size))⟩⟩
    · rw [if_neg hft]
      have hgt : decide (h.room - (total L : Nat) < (c.length : Nat)) = false := decide_eq_false hft
      go_enter Try.func27, Try.ntmps27
      go_wp2_with fail
      generalize ((w.alloc (.cells #[.pointer (some ⟨b, 0, none⟩)] 25)).alloc (.cells #[.string x] 9)).alloc (.cells #[.slice pu c.length cu] 29) = wb at *
      refine (HR.out wb HB.out.1).mono ?_
      rintro e1 w1 ⟨rfl, rfl⟩
      have hB1 := HB.out.1
      have hb0 := HB.out.2.1
      have hb1 := HB.out.2.2.1
      have hb2 := HB.out.2.2.2
      have H0 := Lib.hid (fun w9 (h9 : Below wb.heap.size wb w9) => (by have e := (h9.cell (p := ⟨w.heap.size, 0, none⟩) (lt_of_block hb0)).trans (block_cell hb0 0); simp [go_sem, e] : (loadVar 25 ⟨w.heap.size, 0, none⟩).run Try.prog w9 = .ok (.pointer (some ⟨b, 0, none⟩)) w9))
      have H2 := Lib.hid (fun w9 (h9 : Below wb.heap.size wb w9) => (by have e := (h9.cell (p := ⟨(w.heap.size + 1 + 1), 0, none⟩) (lt_of_block hb2)).trans (block_cell hb2 0); simp [go_sem, e] : (loadVar 29 ⟨(w.heap.size + 1 + 1), 0, none⟩).run Try.prog w9 = .ok (.slice pu c.length cu) w9))
      have HC := Lib.hid (fun w9 (h9 : Below wb.heap.size wb w9) => (HF.out w9 (hB1.trans (h9.mono hB1.size))).mono (fun e9 w8 hh => (⟨hh.1, h9.trans (hh.2.mono h9.size)⟩ : e9 = .returned (.int .i64 (h.room - (total L : Nat))) ∧ Below wb.heap.size wb w8)))
      have Hb0 := Lib.hid hb0
      have Hb1 := Lib.hid hb1
      have Hb2 := Lib.hid hb2
      have HB1 := Lib.hid hB1
      clear hb0 hb1 hb2 hB1
      go_wp2_with fail
      refine wp_region_class (Below wb.heap.size wb) (by kernel_rfl) (by kernel_rfl) (Below.refl _ _).drew ?_
      refine wpQuiet_load_at rfl 29 (.tmp 5) rfl ⟨w.heap.size + 1 + 1, 0, none⟩ rfl (.slice pu c.length cu) H2.out ?_
      simp only [Act.put, List.setIfInBounds_toArray, List.set_cons_succ, List.set_cons_zero]
      repeat (go_big_quiet_step (first | (intro _; rfl)))
      refine wpQuiet_load_at rfl 25 (.tmp 3) rfl ⟨w.heap.size, 0, none⟩ rfl (.pointer (some ⟨b, 0, none⟩)) H0.out ?_
      simp only [Act.put, List.setIfInBounds_toArray, List.set_cons_succ, List.set_cons_zero]
      repeat (go_big_quiet_step (first | (intro _; rfl) | (intro hq; exact HC.out _ hq)))
      refine wpQuiet_nil ?_
      intro wq hq
      have Hq := Lib.hid hq
      clear hq
      have hB2 := HB1.out.trans (Hq.out.mono HB1.out.size)
      have q0 := (Hq.out.block _ (lt_of_block Hb0.out)).trans Hb0.out
      have q1 := (Hq.out.block _ (lt_of_block Hb1.out)).trans Hb1.out
      have q2 := (Hq.out.block _ (lt_of_block Hb2.out)).trans Hb2.out
      have c3 := block_cell q0 0
      have Q0 := Lib.hid q0
      have Q1 := Lib.hid q1
      have Q2 := Lib.hid q2
      have HB2 := Lib.hid hB2
      clear q0 q1 q2 hB2
      go_wp2_with fail
      have hns : ∀ n, ¬ S (w.heap.size + n) := fun n hn => by have := hS _ hn; omega
      refine (act_any (HD.out.below HB2.out) hdn hl ha 0 (Apd L x c) 47 _ (fun w1 => by kernel_rfl) (append1 (by omega) HL.out hLn hcl ⟨Q0.out, hns 0⟩ ⟨Q1.out, hns 1⟩ ⟨Q2.out, hns 2⟩ (Hd.out.kept (Kept.of_below HB2.out)).a) (fun L2 h2 f hf => by have := Apd.le (N := 1048576) h2 (by omega) (by omega) f hf; omega) HL.out).mono ?_
      intro e9 w9 h9
      have HE := Lib.hid (h9.of HB2.out)
      clear h9 hns c3
      rcases HE.out.r with ⟨h1, h2, rest⟩ | ⟨h1, h2, rest⟩
      · subst h2
        clear rest
        go_wp2_with fail
        go_ret
        exact ⟨.inr ⟨rfl, HE.out⟩⟩
      · subst h2
        clear rest
        go_wp2_with fail
        go_ret
        exact ⟨.inr ⟨rfl, HE.out⟩⟩
  · rw [if_pos hre]
    generalize readyE h x = pre at *
    have hrb : (pre != 0) = true := by simpa using hre
    go_enter Try.func27, Try.ntmps27
    go_wp2_with fail
    generalize ((w.alloc (.cells #[.pointer (some ⟨b, 0, none⟩)] 25)).alloc (.cells #[.string x] 9)).alloc (.cells #[.slice pu c.length cu] 29) = wb at *
    refine (HR.out wb HB.out.1).mono ?_
    rintro e1 w1 ⟨rfl, rfl⟩
    go_wp2_with fail
    go_ret
    exact ⟨.inl ⟨hre, rfl, (HD.out.below HB.out.1).mono (fun k hk => .inl hk), Kept.of_below HB.out.1⟩⟩
end Go.Proofs.Ytfmcemedaehcoaa
