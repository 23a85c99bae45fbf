/- Walks: Append, Sync; Walks: Sync, Cut, Remove; Walks: Cut, Remove, Rename; Walks: what the calls do, in the words of files by names: a list of names, bytes, safe counts; The device that the store stands on: what each call does to it, in the blocks that are its own. -/
import Derived.Test.YtbdlmdmbaajcmaaD3
namespace Go.Proofs.Ytbdlmdmbaajcmaa
set_option linter.unusedVariables false
set_option linter.unusedSimpArgs false
open Go.ChangeShapes Go.WideShapes Go.ChangeAt Go.RowKit Go.ChangeMaps

/-- What a call that does an act leads to: it is refused with 'pre', or the act is done. -/
structure OpR (S : Nat → Prop) (b : Nat) (h : Hd) (L : List Fl) (pre stays : Int) (E : List Fl → Prop) (w : World) (e : Ending) (w' : World) : Prop where
  r : (pre ≠ 0 ∧ e = .returned (.int .i64 pre) ∧ Dev (Gr S w w') b h L w' ∧ Kept S w w') ∨ (pre = 0 ∧ ActR S b h L stays E w e w')
theorem ActR.of {S : Nat → Prop} {b : Nat} {h : Hd} {L : List Fl} {stays : Int} {E : List Fl → Prop} {w0 w w' : World} {e : Ending} (a : ActR S b h L stays E w e w') (hB : Below w0.heap.size w0 w) : ActR S b h L stays E w0 e w' := by
  have hg : ∀ k, Gr S w w' k → Gr S w0 w' k := fun k hk => hk.imp id (fun x => ⟨Nat.le_trans hB.size x.1, x.2⟩)
  refine ⟨?_, (Kept.of_below hB).trans' a.k⟩
  rcases a.r with ⟨h1, h2, L2, h3, h4⟩ | ⟨h1, h2, L2, h3, h4⟩
  · exact .inl ⟨h1, h2, L2, h3, h4.mono hg⟩
  · exact .inr ⟨h1, h2, L2, h3, h4.mono hg⟩
theorem total_le {L : List Fl} {f : Fl} (hf : f ∈ L) : f.d.length ≤ total L := by
  unfold total
  induction L with
  | nil => cases hf
  | cons g r ih =>
    rcases List.mem_cons.1 hf with rfl | h
    · simp
    · have := ih h; simp only [List.map_cons, List.sum_cons]; omega
theorem datL_le {L : List Fl} {x : ByteArray} : (datL L x).length ≤ total L := by
  unfold datL
  cases hl : look L x with
  | none => simp
  | some f => exact total_le (look_some hl).1
theorem Apd.le {L L2 : List Fl} {x : ByteArray} {c : List UInt8} (h : Apd L x c L2) {N : Nat} (ht : total L ≤ N) (hc : c.length ≤ N) : ∀ f ∈ L2, f.d.length ≤ N + N := by
  obtain ⟨f', h1, h2, h3, rfl⟩ := h
  intro g hg
  rcases upd_mem hg with rfl | ⟨hg, _⟩
  · have := @datL_le L x
    rw [h2, List.length_append]; omega
  · have := total_le hg; omega
/-- The bytes of a slice. -/
structure Byt (S : Nat → Prop) (w : World) (u : Value) (c : List UInt8) : Prop where
  a : ∀ w1, Kept S w w1 → LAt 1 bV w1 u c
theorem Byt.slice {S : Nat → Prop} {w : World} {u : Value} {c : List UInt8} (h : Byt S w u c) : ∃ pu cu, u = .slice pu c.length cu := by
  rcases (h.a w (Kept.refl _ _)).2 with ⟨pp, cap, e, rfl⟩ | ⟨bb, off, cap, e, _⟩
  · exact ⟨_, _, e⟩
  · exact ⟨_, _, e⟩
theorem Byt.kept {S : Nat → Prop} {w w' : World} {u : Value} {c : List UInt8} (h : Byt S w u c) (hk : Kept S w w') : Byt S w' u c := ⟨fun w1 h1 => h.a w1 (hk.trans' h1)⟩
theorem boxes3 (w : World) (v1 v2 v3 : Value) (t1 t2 t3 : TypeId) : Hid (Below w.heap.size w (((w.alloc (.cells #[v1] t1)).alloc (.cells #[v2] t2)).alloc (.cells #[v3] t3)) ∧
    (((w.alloc (.cells #[v1] t1)).alloc (.cells #[v2] t2)).alloc (.cells #[v3] t3)).heap[w.heap.size]? = some (.cells #[v1] t1 (0, 0)) ∧
    (((w.alloc (.cells #[v1] t1)).alloc (.cells #[v2] t2)).alloc (.cells #[v3] t3)).heap[w.heap.size + 1]? = some (.cells #[v2] t2 (0, 0)) ∧
    (((w.alloc (.cells #[v1] t1)).alloc (.cells #[v2] t2)).alloc (.cells #[v3] t3)).heap[w.heap.size + 1 + 1]? = some (.cells #[v3] t3 (0, 0))) := by
  have b1 : Below w.heap.size w (w.alloc (.cells #[v1] t1)) := (Below.refl _ w).alloc (Nat.le_refl _) _
  have b2 : Below w.heap.size w ((w.alloc (.cells #[v1] t1)).alloc (.cells #[v2] t2)) := b1.alloc b1.size _
  have s1 : (w.alloc (.cells #[v1] t1)).heap.size = w.heap.size + 1 := by simp
  have s2 : ((w.alloc (.cells #[v1] t1)).alloc (.cells #[v2] t2)).heap.size = w.heap.size + 1 + 1 := by simp
  have n1 : (w.alloc (.cells #[v1] t1)).heap[w.heap.size]? = some (.cells #[v1] t1 (0, 0)) := heap_alloc_new _ _
  have n2 : ((w.alloc (.cells #[v1] t1)).alloc (.cells #[v2] t2)).heap[(w.alloc (.cells #[v1] t1)).heap.size]? = some (.cells #[v2] t2 (0, 0)) := heap_alloc_new _ _
  have n3 : (((w.alloc (.cells #[v1] t1)).alloc (.cells #[v2] t2)).alloc (.cells #[v3] t3)).heap[((w.alloc (.cells #[v1] t1)).alloc (.cells #[v2] t2)).heap.size]? = some (.cells #[v3] t3 (0, 0)) := heap_alloc_new _ _
  have d1 : Below (w.alloc (.cells #[v1] t1)).heap.size (w.alloc (.cells #[v1] t1)) ((w.alloc (.cells #[v1] t1)).alloc (.cells #[v2] t2)) := (Below.refl _ _).alloc (Nat.le_refl _) _
  have d2 : Below ((w.alloc (.cells #[v1] t1)).alloc (.cells #[v2] t2)).heap.size ((w.alloc (.cells #[v1] t1)).alloc (.cells #[v2] t2)) (((w.alloc (.cells #[v1] t1)).alloc (.cells #[v2] t2)).alloc (.cells #[v3] t3)) := (Below.refl _ _).alloc (Nat.le_refl _) _
  rw [s1] at n2
  rw [s2] at n3
  exact Lib.hid ⟨b2.alloc b2.size _, (d2.block _ (by rw [s2]; omega)).trans ((d1.block _ (by rw [s1]; omega)).trans n1), (d2.block _ (by rw [s2]; omega)).trans n2, n3⟩
set_option maxRecDepth 100000 in
set_option maxHeartbeats 1000000 in
theorem append_any {S : Nat → Prop} {b : Nat} {h : Hd} {L : List Fl} {w : World} (d : Dev S b h L w) (hS : ∀ k, S k → k < w.heap.size) (x : ByteArray) (u : Value) (c : List UInt8) (hu : Byt S w u c) (hr : 0 ≤ h.room ∧ h.room ≤ 1048576) (ht : total L ≤ 1048576)
    (hl : 0 ≤ h.left ∧ h.left ≤ 9223372036854775807) (ha : 0 ≤ h.acts ∧ h.acts ≤ 1099511627776) (hLn : L.length ≤ 1048576) (hcl : c.length ≤ 16777216) :
    Calls Try.prog 46 #[.pointer (some ⟨b, 0, none⟩), .string x, u] w (OpR S b h L (if readyE h x ≠ 0 then readyE h x else if h.room - (total L : Nat) < (c.length : Nat) then 6 else 0) 0 (Apd L x c) w) := by
  obtain ⟨pu, cu, rfl⟩ := hu.slice
  have HB := boxes3 w (.pointer (some ⟨b, 0, none⟩)) (.string x) (.slice pu c.length cu) 25 9 40
  have HD := Lib.hid d
  have HR := Lib.hid (fun w1 (hB : Below w.heap.size w w1) => ready_any (d.below hB) x)
  have HF := Lib.hid (fun w1 (hB : Below w.heap.size w w1) => free_any (d.below hB) hr (by omega))
  have HU := Lib.hid hu
  have HL : Hid (∀ f ∈ L, f.d.length ≤ 16777216) := Lib.hid (fun f hf => by have := total_le hf; omega)
  have Hd := Lib.hid hu
  clear hu d
  by_cases hre : readyE h x = 0
  · rw [if_neg (by rw [hre]; simp)]
    rw [hre] at HR
    have hdn := (readyE_ok hre).1
    have hx := (goodN_size (readyE_ok hre).2).2
    clear hre
    by_cases hft : h.room - (total L : Nat) < (c.length : Nat)
    · rw [if_pos hft]
      have hgt : decide (h.room - (total L : Nat) < (c.length : Nat)) = true := decide_eq_true hft
      go_enter Try.func46, Try.ntmps46
      go_wp2_with fail
      generalize ((w.alloc (.cells #[.pointer (some ⟨b, 0, none⟩)] 25)).alloc (.cells #[.string x] 9)).alloc (.cells #[.slice pu c.length cu] 40) = wb at *
      refine (HR.out wb HB.out.1).mono ?_
      rintro e1 w1 ⟨rfl, rfl⟩
      have hB1 := HB.out.1
      have hb0 := HB.out.2.1
      have hb1 := HB.out.2.2.1
      have hb2 := HB.out.2.2.2
      have H0 := Lib.hid (fun w9 (h9 : Below wb.heap.size wb w9) => (by have e := (h9.cell (p := ⟨w.heap.size, 0, none⟩) (lt_of_block hb0)).trans (block_cell hb0 0); simp [go_sem, e] : (loadVar 25 ⟨w.heap.size, 0, none⟩).run Try.prog w9 = .ok (.pointer (some ⟨b, 0, none⟩)) w9))
      have H2 := Lib.hid (fun w9 (h9 : Below wb.heap.size wb w9) => (by have e := (h9.cell (p := ⟨(w.heap.size + 1 + 1), 0, none⟩) (lt_of_block hb2)).trans (block_cell hb2 0); simp [go_sem, e] : (loadVar 40 ⟨(w.heap.size + 1 + 1), 0, none⟩).run Try.prog w9 = .ok (.slice pu c.length cu) w9))
      have HC := Lib.hid (fun w9 (h9 : Below wb.heap.size wb w9) => (HF.out w9 (hB1.trans (h9.mono hB1.size))).mono (fun e9 w8 hh => (⟨hh.1, h9.trans (hh.2.mono h9.size)⟩ : e9 = .returned (.int .i64 (h.room - (total L : Nat))) ∧ Below wb.heap.size wb w8)))
      have Hb0 := Lib.hid hb0
      have Hb1 := Lib.hid hb1
      have Hb2 := Lib.hid hb2
      have HB1 := Lib.hid hB1
      clear hb0 hb1 hb2 hB1
      go_wp2_with fail
      refine wp_region_class (Below wb.heap.size wb) (by kernel_rfl) (by kernel_rfl) (Below.refl _ _).drew ?_
      refine wpQuiet_load_at rfl 40 (.tmp 5) rfl ⟨w.heap.size + 1 + 1, 0, none⟩ rfl (.slice pu c.length cu) H2.out ?_
      simp only [Act.put, List.setIfInBounds_toArray, List.set_cons_succ, List.set_cons_zero]
      repeat (go_big_quiet_step (first | (intro _; rfl)))
      refine wpQuiet_load_at rfl 25 (.tmp 3) rfl ⟨w.heap.size, 0, none⟩ rfl (.pointer (some ⟨b, 0, none⟩)) H0.out ?_
      simp only [Act.put, List.setIfInBounds_toArray, List.set_cons_succ, List.set_cons_zero]
      repeat (go_big_quiet_step (first | (intro _; rfl) | (intro hq; exact HC.out _ hq)))
      refine wpQuiet_nil ?_
      intro wq hq
      have Hq := Lib.hid hq
      clear hq
      go_wp2_with fail
      go_ret
      exact ⟨.inl ⟨by decide, rfl, (HD.out.below (HB1.out.trans (Hq.out.mono HB1.out.size))).mono (fun k hk => .inl hk), Kept.of_below (HB1.out.trans (Hq.out.mono HB1.out.size))⟩⟩
    · rw [if_neg hft]
      have hgt : decide (h.room - (total L : Nat) < (c.length : Nat)) = false := decide_eq_false hft
      go_enter Try.func46, Try.ntmps46
      go_wp2_with fail
      generalize ((w.alloc (.cells #[.pointer (some ⟨b, 0, none⟩)] 25)).alloc (.cells #[.string x] 9)).alloc (.cells #[.slice pu c.length cu] 40) = wb at *
      refine (HR.out wb HB.out.1).mono ?_
      rintro e1 w1 ⟨rfl, rfl⟩
      have hB1 := HB.out.1
      have hb0 := HB.out.2.1
      have hb1 := HB.out.2.2.1
      have hb2 := HB.out.2.2.2
      have H0 := Lib.hid (fun w9 (h9 : Below wb.heap.size wb w9) => (by have e := (h9.cell (p := ⟨w.heap.size, 0, none⟩) (lt_of_block hb0)).trans (block_cell hb0 0); simp [go_sem, e] : (loadVar 25 ⟨w.heap.size, 0, none⟩).run Try.prog w9 = .ok (.pointer (some ⟨b, 0, none⟩)) w9))
      have H2 := Lib.hid (fun w9 (h9 : Below wb.heap.size wb w9) => (by have e := (h9.cell (p := ⟨(w.heap.size + 1 + 1), 0, none⟩) (lt_of_block hb2)).trans (block_cell hb2 0); simp [go_sem, e] : (loadVar 40 ⟨(w.heap.size + 1 + 1), 0, none⟩).run Try.prog w9 = .ok (.slice pu c.length cu) w9))
      have HC := Lib.hid (fun w9 (h9 : Below wb.heap.size wb w9) => (HF.out w9 (hB1.trans (h9.mono hB1.size))).mono (fun e9 w8 hh => (⟨hh.1, h9.trans (hh.2.mono h9.size)⟩ : e9 = .returned (.int .i64 (h.room - (total L : Nat))) ∧ Below wb.heap.size wb w8)))
      have Hb0 := Lib.hid hb0
      have Hb1 := Lib.hid hb1
      have Hb2 := Lib.hid hb2
      have HB1 := Lib.hid hB1
      clear hb0 hb1 hb2 hB1
      go_wp2_with fail
      refine wp_region_class (Below wb.heap.size wb) (by kernel_rfl) (by kernel_rfl) (Below.refl _ _).drew ?_
      refine wpQuiet_load_at rfl 40 (.tmp 5) rfl ⟨w.heap.size + 1 + 1, 0, none⟩ rfl (.slice pu c.length cu) H2.out ?_
      simp only [Act.put, List.setIfInBounds_toArray, List.set_cons_succ, List.set_cons_zero]
      repeat (go_big_quiet_step (first | (intro _; rfl)))
      refine wpQuiet_load_at rfl 25 (.tmp 3) rfl ⟨w.heap.size, 0, none⟩ rfl (.pointer (some ⟨b, 0, none⟩)) H0.out ?_
      simp only [Act.put, List.setIfInBounds_toArray, List.set_cons_succ, List.set_cons_zero]
      repeat (go_big_quiet_step (first | (intro _; rfl) | (intro hq; exact HC.out _ hq)))
      refine wpQuiet_nil ?_
      intro wq hq
      have Hq := Lib.hid hq
      clear hq
      have hB2 := HB1.out.trans (Hq.out.mono HB1.out.size)
      have q0 := (Hq.out.block _ (lt_of_block Hb0.out)).trans Hb0.out
      have q1 := (Hq.out.block _ (lt_of_block Hb1.out)).trans Hb1.out
      have q2 := (Hq.out.block _ (lt_of_block Hb2.out)).trans Hb2.out
      have c3 := block_cell q0 0
      have Q0 := Lib.hid q0
      have Q1 := Lib.hid q1
      have Q2 := Lib.hid q2
      have HB2 := Lib.hid hB2
      clear q0 q1 q2 hB2
      go_wp2_with fail
      have hns : ∀ n, ¬ S (w.heap.size + n) := fun n hn => by have := hS _ hn; omega
      refine (act_any (HD.out.below HB2.out) hdn hl ha 0 (Apd L x c) 68 _ (fun w1 => by kernel_rfl) (append1 (by omega) HL.out hLn hcl ⟨Q0.out, hns 0⟩ ⟨Q1.out, hns 1⟩ ⟨Q2.out, hns 2⟩ (Hd.out.kept (Kept.of_below HB2.out)).a) (fun L2 h2 f hf => by have := Apd.le (N := 1048576) h2 (by omega) (by omega) f hf; omega) HL.out).mono ?_
      intro e9 w9 h9
      have HE := Lib.hid (h9.of HB2.out)
      clear h9 hns c3
      rcases HE.out.r with ⟨h1, h2, rest⟩ | ⟨h1, h2, rest⟩
      · subst h2
        clear rest
        go_wp2_with fail
        go_ret
        exact ⟨.inr ⟨rfl, HE.out⟩⟩
      · subst h2
        clear rest
        go_wp2_with fail
        go_ret
        exact ⟨.inr ⟨rfl, HE.out⟩⟩
  · rw [if_pos hre]
    generalize readyE h x = pre at *
    have hrb : (pre != 0) = true := by simpa using hre
    go_enter Try.func46, Try.ntmps46
    go_wp2_with fail
    generalize ((w.alloc (.cells #[.pointer (some ⟨b, 0, none⟩)] 25)).alloc (.cells #[.string x] 9)).alloc (.cells #[.slice pu c.length cu] 40) = wb at *
    refine (HR.out wb HB.out.1).mono ?_
    rintro e1 w1 ⟨rfl, rfl⟩
    go_wp2_with fail
    go_ret
    exact ⟨.inl ⟨hre, rfl, (HD.out.below HB.out.1).mono (fun k hk => .inl hk), Kept.of_below HB.out.1⟩⟩
end Go.Proofs.Ytbdlmdmbaajcmaa
namespace Go.Proofs.Ytbdlmdmbaajcmaa
set_option linter.unusedVariables false
set_option linter.unusedSimpArgs false
open Go.ChangeShapes Go.WideShapes Go.ChangeAt Go.RowKit Go.ChangeMaps

theorem findE_err {h : Hd} {L : List Fl} {x : ByteArray} (he : findE h L x ≠ 0) : findP h L x = .pointer none := by
  unfold findE at he
  unfold findP
  by_cases hr : readyE h x = 0
  · rw [if_neg (by simp [hr])] at he ⊢
    cases hl : look L x with
    | none => rfl
    | some f => rw [hl] at he; simp at he
  · rw [if_pos hr]
theorem findE_parts {h : Hd} {L : List Fl} {x : ByteArray} (he : findE h L x = 0) : h.down = false ∧ x.size ≤ 32 ∧ ∃ f, look L x = some f ∧ f ∈ L ∧ f.nm = x ∧ findP h L x = .pointer (some ⟨f.B, 0, none⟩) := by
  obtain ⟨hr, f, hl, hp⟩ := findE_ok he
  exact ⟨(readyE_ok hr).1, (goodN_size (readyE_ok hr).2).2, f, hl, (look_some hl).1, (look_some hl).2, hp⟩
def SyE (L : List Fl) (x : ByteArray) (L2 : List Fl) : Prop := ∃ f, look L x = some f ∧ L2 = upd L (syncF f)
theorem SyE.le {L L2 : List Fl} {x : ByteArray} (h : SyE L x L2) {N : Nat} (hL : ∀ f ∈ L, f.d.length ≤ N) : ∀ f ∈ L2, f.d.length ≤ N := by
  obtain ⟨f, hl, rfl⟩ := h
  intro g hg
  rcases upd_mem hg with rfl | ⟨hg, _⟩
  · exact hL f (look_some hl).1
  · exact hL g hg
theorem Does.weak {S : Nat → Prop} {b : Nat} {L : List Fl} {E E2 : List Fl → Prop} {fn : FuncId} {caps : Array Value} {w : World} (h : Does S b L E fn caps w) (he : ∀ L2, E L2 → E2 L2) : Does S b L E2 fn caps w := fun w1 h1 d hk =>
  (h w1 h1 d hk).mono fun e w2 ⟨h2, L2, h3, h4, h5⟩ => ⟨h2, L2, he L2 h3, h4, h5⟩
set_option maxRecDepth 100000 in
set_option maxHeartbeats 1000000 in
theorem sync_any {S : Nat → Prop} {b : Nat} {h : Hd} {L : List Fl} {w : World} (d : Dev S b h L w) (hS : ∀ k, S k → k < w.heap.size) (x : ByteArray) (hL : ∀ f ∈ L, f.d.length ≤ 16777216) (hl : 0 ≤ h.left ∧ h.left ≤ 9223372036854775807) (ha : 0 ≤ h.acts ∧ h.acts ≤ 1099511627776) :
    Calls Try.prog 45 #[.pointer (some ⟨b, 0, none⟩), .string x] w (OpR S b h L (findE h L x) 2 (SyE L x) w) := by
  have HF := Lib.hid (find_any d x)
  have HD := Lib.hid d
  have HL := Lib.hid hL
  by_cases he : findE h L x = 0
  · obtain ⟨hdn, hx, f, hlk, hf, hfx, hp⟩ := findE_parts he
    rw [he, hp] at HF
    rw [he]
    have hB2 : Below w.heap.size w (w.alloc (.cells #[.pointer (some ⟨f.B, 0, none⟩)] 84)) := (Below.refl _ w).alloc (Nat.le_refl _) _
    have n1 : (w.alloc (.cells #[.pointer (some ⟨f.B, 0, none⟩)] 84)).heap[w.heap.size]? = some (.cells #[.pointer (some ⟨f.B, 0, none⟩)] 84 (0, 0)) := heap_alloc_new _ _
    have HB2 := Lib.hid hB2
    have N1 := Lib.hid n1
    clear d he hp hB2 n1
    go_enter Try.func45, Try.ntmps45
    go_wp2_with fail
    refine HF.out.mono ?_
    rintro e1 w1 ⟨rfl, rfl⟩
    go_wp2_with fail
    generalize w.alloc (.cells #[.pointer (some ⟨f.B, 0, none⟩)] 84) = wb at *
    have hns : ∀ n, ¬ S (w.heap.size + n) := fun n hn => by have := hS _ hn; omega
    refine (act_any (HD.out.below HB2.out) hdn hl ha 2 (SyE L x) 67 _ (fun w1 => by kernel_rfl) ((sync1 hf ⟨N1.out, hns 0⟩).weak (fun L2 h2 => ⟨f, hlk, h2⟩)) (fun L2 h2 => h2.le HL.out) HL.out).mono ?_
    intro e9 w9 h9
    have HE := Lib.hid (h9.of HB2.out)
    clear h9 hns
    rcases HE.out.r with ⟨h1, h2, rest⟩ | ⟨h1, h2, rest⟩
    · subst h2
      clear rest
      go_wp2_with fail
      go_ret
      exact ⟨.inr ⟨rfl, HE.out⟩⟩
    · subst h2
      clear rest
      go_wp2_with fail
      go_ret
      exact ⟨.inr ⟨rfl, HE.out⟩⟩
  · have hp := findE_err he
    rw [hp] at HF
    generalize findE h L x = pre at *
    have hrb : (pre != 0) = true := by simpa using he
    have HB2 : Hid (Below w.heap.size w (w.alloc (.cells #[.pointer none] 84))) := Lib.hid ((Below.refl _ w).alloc (Nat.le_refl _) _)
    clear d hp
    go_enter Try.func45, Try.ntmps45
    go_wp2_with fail
    refine HF.out.mono ?_
    rintro e1 w1 ⟨rfl, rfl⟩
    go_wp2_with fail
    generalize w.alloc (.cells #[.pointer none] 84) = wb at *
    go_wp2_with fail
    go_ret
    exact ⟨.inl ⟨he, rfl, (HD.out.below HB2.out).mono (fun k hk => .inl hk), Kept.of_below HB2.out⟩⟩
end Go.Proofs.Ytbdlmdmbaajcmaa
namespace Go.Proofs.Ytbdlmdmbaajcmaa
set_option linter.unusedVariables false
set_option linter.unusedSimpArgs false
open Go.ChangeShapes Go.WideShapes Go.ChangeAt Go.RowKit Go.ChangeMaps

theorem boxes2 (w : World) (v1 v2 : Value) (t1 t2 : TypeId) : Hid (Below w.heap.size w ((w.alloc (.cells #[v1] t1)).alloc (.cells #[v2] t2)) ∧
    ((w.alloc (.cells #[v1] t1)).alloc (.cells #[v2] t2)).heap[w.heap.size]? = some (.cells #[v1] t1 (0, 0)) ∧
    ((w.alloc (.cells #[v1] t1)).alloc (.cells #[v2] t2)).heap[w.heap.size + 1]? = some (.cells #[v2] t2 (0, 0)) ∧ ((w.alloc (.cells #[v1] t1)).alloc (.cells #[v2] t2)).heap.size = w.heap.size + 1 + 1) := by
  have h := (boxes3 w v1 v2 v2 t1 t2 t2).out
  have b1 : Below w.heap.size w (w.alloc (.cells #[v1] t1)) := (Below.refl _ w).alloc (Nat.le_refl _) _
  have s1 : (w.alloc (.cells #[v1] t1)).heap.size = w.heap.size + 1 := by simp
  have n1 : (w.alloc (.cells #[v1] t1)).heap[w.heap.size]? = some (.cells #[v1] t1 (0, 0)) := heap_alloc_new _ _
  have n2 : ((w.alloc (.cells #[v1] t1)).alloc (.cells #[v2] t2)).heap[(w.alloc (.cells #[v1] t1)).heap.size]? = some (.cells #[v2] t2 (0, 0)) := heap_alloc_new _ _
  have d1 : Below (w.alloc (.cells #[v1] t1)).heap.size (w.alloc (.cells #[v1] t1)) ((w.alloc (.cells #[v1] t1)).alloc (.cells #[v2] t2)) := (Below.refl _ _).alloc (Nat.le_refl _) _
  rw [s1] at n2
  exact Lib.hid ⟨b1.alloc b1.size _, (d1.block _ (by rw [s1]; omega)).trans n1, n2, by simp⟩
theorem boxes4 (w : World) (v1 v2 v3 v4 : Value) (t1 t2 t3 t4 : TypeId) : Hid (Below w.heap.size w ((((w.alloc (.cells #[v1] t1)).alloc (.cells #[v2] t2)).alloc (.cells #[v3] t3)).alloc (.cells #[v4] t4)) ∧
    ((((w.alloc (.cells #[v1] t1)).alloc (.cells #[v2] t2)).alloc (.cells #[v3] t3)).alloc (.cells #[v4] t4)).heap[w.heap.size]? = some (.cells #[v1] t1 (0, 0)) ∧
    ((((w.alloc (.cells #[v1] t1)).alloc (.cells #[v2] t2)).alloc (.cells #[v3] t3)).alloc (.cells #[v4] t4)).heap[w.heap.size + 1]? = some (.cells #[v2] t2 (0, 0)) ∧
    ((((w.alloc (.cells #[v1] t1)).alloc (.cells #[v2] t2)).alloc (.cells #[v3] t3)).alloc (.cells #[v4] t4)).heap[w.heap.size + 1 + 1]? = some (.cells #[v3] t3 (0, 0)) ∧
    ((((w.alloc (.cells #[v1] t1)).alloc (.cells #[v2] t2)).alloc (.cells #[v3] t3)).alloc (.cells #[v4] t4)).heap[w.heap.size + 1 + 1 + 1]? = some (.cells #[v4] t4 (0, 0))) := by
  obtain ⟨h1, h2, h3, h4⟩ := (boxes3 w v1 v2 v3 t1 t2 t3).out
  have s : (((w.alloc (.cells #[v1] t1)).alloc (.cells #[v2] t2)).alloc (.cells #[v3] t3)).heap.size = w.heap.size + 1 + 1 + 1 := by simp
  generalize ((w.alloc (.cells #[v1] t1)).alloc (.cells #[v2] t2)).alloc (.cells #[v3] t3) = wa at *
  have n1 : (wa.alloc (.cells #[v4] t4)).heap[wa.heap.size]? = some (.cells #[v4] t4 (0, 0)) := heap_alloc_new _ _
  have d1 : Below wa.heap.size wa (wa.alloc (.cells #[v4] t4)) := (Below.refl _ _).alloc (Nat.le_refl _) _
  rw [s] at n1
  exact Lib.hid ⟨h1.alloc h1.size _, (d1.block _ (by omega)).trans h2, (d1.block _ (by omega)).trans h3, (d1.block _ (by omega)).trans h4, n1⟩
def CuE (L : List Fl) (x : ByteArray) (n : Nat) (L2 : List Fl) : Prop := ∃ f, look L x = some f ∧ L2 = upd L (cutF n f)
theorem CuE.le {L L2 : List Fl} {x : ByteArray} {n : Nat} (h : CuE L x n L2) {N : Nat} (hL : ∀ f ∈ L, f.d.length ≤ N) : ∀ f ∈ L2, f.d.length ≤ N := by
  obtain ⟨f, hl, rfl⟩ := h
  intro g hg
  rcases upd_mem hg with rfl | ⟨hg, _⟩
  · have := hL f (look_some hl).1
    simp only [cutF, List.length_take]; omega
  · exact hL g hg
theorem drp_le {L : List Fl} {x : ByteArray} {N : Nat} (hL : ∀ f ∈ L, f.d.length ≤ N) : ∀ f ∈ drp L x, f.d.length ≤ N := fun f hf => hL f (drp_mem.1 hf).1
def RnE (L : List Fl) (x y : ByteArray) (L2 : List Fl) : Prop := ∃ f, look L x = some f ∧ L2 = upd (drp L x) (renF f y)
theorem RnE.le {L L2 : List Fl} {x y : ByteArray} (h : RnE L x y L2) {N : Nat} (hL : ∀ f ∈ L, f.d.length ≤ N) : ∀ f ∈ L2, f.d.length ≤ N := by
  obtain ⟨f, hl, rfl⟩ := h
  intro g hg
  rcases upd_mem hg with rfl | ⟨hg, _⟩
  · exact hL f (look_some hl).1
  · exact drp_le hL g hg
set_option maxRecDepth 100000 in
set_option maxHeartbeats 1000000 in
theorem cut_any {S : Nat → Prop} {b : Nat} {h : Hd} {L : List Fl} {w : World} (d : Dev S b h L w) (hS : ∀ k, S k → k < w.heap.size) (x : ByteArray) (hL : ∀ f ∈ L, f.d.length ≤ 16777216) (hl : 0 ≤ h.left ∧ h.left ≤ 9223372036854775807) (ha : 0 ≤ h.acts ∧ h.acts ≤ 1099511627776) (n : Int) (hn : -9223372036854775808 ≤ n ∧ n ≤ 9223372036854775807) :
    Calls Try.prog 58 #[.pointer (some ⟨b, 0, none⟩), .string x, .int .i64 n] w (OpR S b h L (if findE h L x ≠ 0 then findE h L x else if n < 0 then 1 else 0) 1 (CuE L x n.toNat) w) := by
  have HF := Lib.hid (fun w1 (hB : Below w.heap.size w w1) => find_any (d.below hB) x)
  have HD := Lib.hid d
  have HL := Lib.hid hL
  have HB1 : Hid (Below w.heap.size w (w.alloc (.cells #[.int .i64 n] 3))) := Lib.hid ((Below.refl _ w).alloc (Nat.le_refl _) _)
  by_cases he : findE h L x = 0
  · rw [if_neg (by simp [he])]
    obtain ⟨hdn, hx, f, hlk, hf, hfx, hp⟩ := findE_parts he
    rw [he, hp] at HF
    have HB := boxes2 w (.int .i64 n) (.pointer (some ⟨f.B, 0, none⟩)) 3 84
    have c0 := block_cell HB.out.2.1 0
    clear d he hp
    by_cases hn0 : n < 0
    · rw [if_pos hn0]
      have hlt : decide (n < 0) = true := decide_eq_true hn0
      go_enter Try.func58, Try.ntmps58
      go_wp2_with fail
      refine (HF.out _ HB1.out).mono ?_
      rintro e1 w1 ⟨rfl, rfl⟩
      go_wp2_with fail
      generalize (w.alloc (.cells #[.int .i64 n] 3)).alloc (.cells #[.pointer (some ⟨f.B, 0, none⟩)] 84) = wb at *
      go_wp2_with fail
      go_ret
      exact ⟨.inl ⟨by decide, rfl, (HD.out.below HB.out.1).mono (fun k hk => .inl hk), Kept.of_below HB.out.1⟩⟩
    · rw [if_neg hn0]
      have hlt : decide (n < 0) = false := decide_eq_false hn0
      have hnn : Hid (n = (n.toNat : Nat)) := Lib.hid (by omega)
      go_enter Try.func58, Try.ntmps58
      go_wp2_with fail
      refine (HF.out _ HB1.out).mono ?_
      rintro e1 w1 ⟨rfl, rfl⟩
      go_wp2_with fail
      generalize (w.alloc (.cells #[.int .i64 n] 3)).alloc (.cells #[.pointer (some ⟨f.B, 0, none⟩)] 84) = wb at *
      go_wp2_with fail
      have HB2 := Lib.hid HB.out.1
      have hns : ∀ n, ¬ S (w.heap.size + n) := fun n hn => by have := hS _ hn; omega
      refine (act_any (HD.out.below HB2.out) hdn hl ha 1 (CuE L x n.toNat) 76 _ (fun w1 => by kernel_rfl) ((cut1 n.toNat (by omega) hf (HL.out f hf) ⟨HB.out.2.2.1, hns 1⟩ ⟨by rw [← hnn.out]; exact HB.out.2.1, hns 0⟩).weak (fun L2 h2 => ⟨f, hlk, h2⟩)) (fun L2 h2 => h2.le HL.out) HL.out).mono ?_
      intro e9 w9 h9
      have HE := Lib.hid (h9.of HB2.out)
      clear h9 hns
      rcases HE.out.r with ⟨h1, h2, rest⟩ | ⟨h1, h2, rest⟩
      · subst h2
        clear rest
        go_wp2_with fail
        go_ret
        exact ⟨.inr ⟨rfl, HE.out⟩⟩
      · subst h2
        clear rest
        go_wp2_with fail
        go_ret
        exact ⟨.inr ⟨rfl, HE.out⟩⟩
  · rw [if_pos he]
    have hp := findE_err he
    rw [hp] at HF
    generalize findE h L x = pre at *
    have hrb : (pre != 0) = true := by simpa using he
    have HB := boxes2 w (.int .i64 n) (.pointer none) 3 84
    clear d hp
    go_enter Try.func58, Try.ntmps58
    go_wp2_with fail
    refine (HF.out _ HB1.out).mono ?_
    rintro e1 w1 ⟨rfl, rfl⟩
    go_wp2_with fail
    generalize (w.alloc (.cells #[.int .i64 n] 3)).alloc (.cells #[.pointer none] 84) = wb at *
    go_wp2_with fail
    go_ret
    exact ⟨.inl ⟨he, rfl, (HD.out.below HB.out.1).mono (fun k hk => .inl hk), Kept.of_below HB.out.1⟩⟩
set_option maxRecDepth 100000 in
set_option maxHeartbeats 1000000 in
theorem remove_any {S : Nat → Prop} {b : Nat} {h : Hd} {L : List Fl} {w : World} (d : Dev S b h L w) (hS : ∀ k, S k → k < w.heap.size) (x : ByteArray) (hL : ∀ f ∈ L, f.d.length ≤ 16777216) (hl : 0 ≤ h.left ∧ h.left ≤ 9223372036854775807) (ha : 0 ≤ h.acts ∧ h.acts ≤ 1099511627776) (hxs : x.size ≤ maxLen) :
    Calls Try.prog 31 #[.pointer (some ⟨b, 0, none⟩), .string x] w (OpR S b h L (findE h L x) 1 (fun L2 => L2 = drp L x) w) := by
  have HB := boxes2 w (.pointer (some ⟨b, 0, none⟩)) (.string x) 25 9
  have HF := Lib.hid (fun w1 (hB : Below w.heap.size w w1) => find_any (d.below hB) x)
  have HD := Lib.hid d
  have HL := Lib.hid hL
  have c0 := block_cell HB.out.2.1 0
  have c1 := block_cell HB.out.2.2.1 0
  by_cases he : findE h L x = 0
  · obtain ⟨hdn, hx, f, hlk, hf, hfx, hp⟩ := findE_parts he
    rw [he, hp] at HF
    rw [he]
    clear d he hp
    go_enter Try.func31, Try.ntmps31
    go_wp2_with fail
    generalize (w.alloc (.cells #[.pointer (some ⟨b, 0, none⟩)] 25)).alloc (.cells #[.string x] 9) = wb at *
    go_wp2_with fail
    refine (HF.out _ HB.out.1).mono ?_
    rintro e1 w1 ⟨rfl, rfl⟩
    go_wp2_with fail
    have HB2 := Lib.hid HB.out.1
    have hns : ∀ n, ¬ S (w.heap.size + n) := fun n hn => by have := hS _ hn; omega
    refine (act_any (HD.out.below HB2.out) hdn hl ha 1 (fun L2 => L2 = drp L x) 56 _ (fun w1 => by kernel_rfl) (remove1 hxs ⟨HB.out.2.1, hns 0⟩ ⟨HB.out.2.2.1, hns 1⟩) (fun L2 h2 => by rw [h2]; exact drp_le HL.out) HL.out).mono ?_
    intro e9 w9 h9
    have HE := Lib.hid (h9.of HB2.out)
    clear h9 hns
    rcases HE.out.r with ⟨h1, h2, rest⟩ | ⟨h1, h2, rest⟩
    · subst h2
      clear rest
      go_wp2_with fail
      go_ret
      exact ⟨.inr ⟨rfl, HE.out⟩⟩
    · subst h2
      clear rest
      go_wp2_with fail
      go_ret
      exact ⟨.inr ⟨rfl, HE.out⟩⟩
  · have hp := findE_err he
    rw [hp] at HF
    generalize findE h L x = pre at *
    have hrb : (pre != 0) = true := by simpa using he
    clear d hp
    go_enter Try.func31, Try.ntmps31
    go_wp2_with fail
    generalize (w.alloc (.cells #[.pointer (some ⟨b, 0, none⟩)] 25)).alloc (.cells #[.string x] 9) = wb at *
    go_wp2_with fail
    refine (HF.out _ HB.out.1).mono ?_
    rintro e1 w1 ⟨rfl, rfl⟩
    go_wp2_with fail
    go_ret
    exact ⟨.inl ⟨he, rfl, (HD.out.below HB.out.1).mono (fun k hk => .inl hk), Kept.of_below HB.out.1⟩⟩
set_option maxRecDepth 100000 in
set_option maxHeartbeats 1000000 in
theorem rename_any {S : Nat → Prop} {b : Nat} {h : Hd} {L : List Fl} {w : World} (d : Dev S b h L w) (hS : ∀ k, S k → k < w.heap.size) (x : ByteArray) (hL : ∀ f ∈ L, f.d.length ≤ 16777216) (hl : 0 ≤ h.left ∧ h.left ≤ 9223372036854775807) (ha : 0 ≤ h.acts ∧ h.acts ≤ 1099511627776) (y : ByteArray) (hLn : L.length ≤ 1048576) :
    Calls Try.prog 48 #[.pointer (some ⟨b, 0, none⟩), .string x, .string y] w (OpR S b h L (if findE h L x ≠ 0 then findE h L x else if goodN y = true then 0 else 1) 1 (RnE L x y) w) := by
  have HB0 := boxes3 w (.pointer (some ⟨b, 0, none⟩)) (.string x) (.string y) 25 9 9
  have HF := Lib.hid (fun w1 (hB : Below w.heap.size w w1) => find_any (d.below hB) x)
  have HN := Lib.hid (fun w1 => named_any y w1)
  have HD := Lib.hid d
  have HL := Lib.hid hL
  have c0 := block_cell HB0.out.2.1 0
  have c1 := block_cell HB0.out.2.2.1 0
  by_cases he : findE h L x = 0
  · rw [if_neg (by simp [he])]
    obtain ⟨hdn, hx, f, hlk, hf, hfx, hp⟩ := findE_parts he
    rw [he, hp] at HF
    have HB := boxes4 w (.pointer (some ⟨b, 0, none⟩)) (.string x) (.string y) (.pointer (some ⟨f.B, 0, none⟩)) 25 9 9 84
    have d0 := block_cell HB.out.2.1 0
    have d2 := block_cell HB.out.2.2.2.1 0
    clear d he hp
    by_cases hg : goodN y = true
    · rw [if_pos hg]
      rw [hg] at HN
      have hy := (goodN_size hg).2
      go_enter Try.func48, Try.ntmps48
      go_wp2_with fail
      refine (HF.out _ HB0.out.1).mono ?_
      rintro e1 w1 ⟨rfl, rfl⟩
      go_wp2_with fail
      generalize (((w.alloc (.cells #[.pointer (some ⟨b, 0, none⟩)] 25)).alloc (.cells #[.string x] 9)).alloc (.cells #[.string y] 9)).alloc (.cells #[.pointer (some ⟨f.B, 0, none⟩)] 84) = wb at *
      go_wp2_with fail
      refine (HN.out _).mono ?_
      rintro e1 w1 ⟨rfl, rfl⟩
      go_wp2_with fail
      have HB2 := Lib.hid HB.out.1
      have hns : ∀ n, ¬ S (w.heap.size + n) := fun n hn => by have := hS _ hn; omega
      refine (act_any (HD.out.below HB2.out) hdn hl ha 1 (RnE L x y) 72 _ (fun w1 => by kernel_rfl) ((rename1 hy hf hLn ⟨HB.out.2.1, hns 0⟩ ⟨by rw [hfx]; exact HB.out.2.2.1, hns 1⟩ ⟨HB.out.2.2.2.2, hns 3⟩ ⟨HB.out.2.2.2.1, hns 2⟩).weak (fun L2 h2 => ⟨f, hlk, by rw [h2, hfx]⟩)) (fun L2 h2 => h2.le HL.out) HL.out).mono ?_
      intro e9 w9 h9
      have HE := Lib.hid (h9.of HB2.out)
      clear h9 hns
      rcases HE.out.r with ⟨h1, h2, rest⟩ | ⟨h1, h2, rest⟩
      · subst h2
        clear rest
        go_wp2_with fail
        go_ret
        exact ⟨.inr ⟨rfl, HE.out⟩⟩
      · subst h2
        clear rest
        go_wp2_with fail
        go_ret
        exact ⟨.inr ⟨rfl, HE.out⟩⟩
    · rw [if_neg hg]
      rw [Bool.not_eq_true] at hg
      rw [hg] at HN
      go_enter Try.func48, Try.ntmps48
      go_wp2_with fail
      refine (HF.out _ HB0.out.1).mono ?_
      rintro e1 w1 ⟨rfl, rfl⟩
      go_wp2_with fail
      generalize (((w.alloc (.cells #[.pointer (some ⟨b, 0, none⟩)] 25)).alloc (.cells #[.string x] 9)).alloc (.cells #[.string y] 9)).alloc (.cells #[.pointer (some ⟨f.B, 0, none⟩)] 84) = wb at *
      go_wp2_with fail
      refine (HN.out _).mono ?_
      rintro e1 w1 ⟨rfl, rfl⟩
      go_wp2_with fail
      go_ret
      exact ⟨.inl ⟨by decide, rfl, (HD.out.below HB.out.1).mono (fun k hk => .inl hk), Kept.of_below HB.out.1⟩⟩
  · rw [if_pos he]
    have hp := findE_err he
    rw [hp] at HF
    generalize findE h L x = pre at *
    have hrb : (pre != 0) = true := by simpa using he
    have HB := boxes4 w (.pointer (some ⟨b, 0, none⟩)) (.string x) (.string y) (.pointer none) 25 9 9 84
    clear d hp
    go_enter Try.func48, Try.ntmps48
    go_wp2_with fail
    refine (HF.out _ HB0.out.1).mono ?_
    rintro e1 w1 ⟨rfl, rfl⟩
    go_wp2_with fail
    generalize (((w.alloc (.cells #[.pointer (some ⟨b, 0, none⟩)] 25)).alloc (.cells #[.string x] 9)).alloc (.cells #[.string y] 9)).alloc (.cells #[.pointer none] 84) = wb at *
    go_wp2_with fail
    go_ret
    exact ⟨.inl ⟨he, rfl, (HD.out.below HB.out.1).mono (fun k hk => .inl hk), Kept.of_below HB.out.1⟩⟩
end Go.Proofs.Ytbdlmdmbaajcmaa
namespace Go.Proofs.Ytbdlmdmbaajcmaa
set_option linter.unusedVariables false
set_option linter.unusedSimpArgs false
open Go.ChangeShapes Go.WideShapes Go.ChangeAt Go.RowKit Go.ChangeMaps

abbrev Ab := ByteArray × List UInt8 × Nat
def absF (f : Fl) : Ab := (f.nm, f.d, f.s)
def lookA (A : List Ab) (x : ByteArray) : Option Ab := A.find? (fun y => decide (y.1 = x))
def updA (A : List Ab) (y : Ab) : List Ab := if (lookA A y.1).isSome = true then A.map (fun g => if g.1 = y.1 then y else g) else A ++ [y]
def drpA (A : List Ab) (x : ByteArray) : List Ab := A.filter (fun g => decide (g.1 ≠ x))
def loseA (keep : Int) (torn : Bool) (y : Ab) : Ab := (y.1, loseD keep torn y.2.1 y.2.2, (loseD keep torn y.2.1 y.2.2).length)
def totA (A : List Ab) : Nat := (A.map fun y => y.2.1.length).sum
def findA (h : Hd) (A : List Ab) (x : ByteArray) : Int := if readyE h x ≠ 0 then readyE h x else if (lookA A x).isSome = true then 0 else 5
def apdA (A : List Ab) (x : ByteArray) (c : List UInt8) : List Ab := updA A (match lookA A x with | some y => (x, y.2.1 ++ c, y.2.2) | none => (x, c, 0))
def synA (A : List Ab) (x : ByteArray) : List Ab := match lookA A x with | some y => updA A (x, y.2.1, y.2.1.length) | none => A
def cutA (A : List Ab) (x : ByteArray) (n : Nat) : List Ab := match lookA A x with | some y => updA A (x, y.2.1.take (min n y.2.1.length), min y.2.2 (min n y.2.1.length)) | none => A
def renA (A : List Ab) (x z : ByteArray) : List Ab := match lookA A x with | some y => updA (drpA A x) (z, y.2.1, y.2.2) | none => A
theorem lookA_abs (L : List Fl) (x : ByteArray) : lookA (L.map absF) x = (look L x).map absF := by
  unfold lookA look
  induction L with
  | nil => rfl
  | cons f r ih =>
    simp only [List.map_cons, List.find?_cons]
    by_cases e : f.nm = x
    · simp [absF, e]
    · simp only [absF, e, decide_false]; simpa [absF] using ih
theorem updA_abs (L : List Fl) (f : Fl) : (upd L f).map absF = updA (L.map absF) (absF f) := by
  unfold upd updA
  have h := lookA_abs L f.nm
  rw [show (absF f).1 = f.nm from rfl, h, Option.isSome_map]
  by_cases e : (look L f.nm).isSome = true
  · rw [if_pos e, if_pos e, List.map_map, List.map_map]
    refine List.map_congr_left fun g _ => ?_
    simp only [Function.comp]
    by_cases e2 : g.nm = f.nm
    · rw [if_pos e2, if_pos (show (absF g).1 = f.nm from e2)]
    · rw [if_neg e2, if_neg (show ¬ (absF g).1 = f.nm from e2)]
  · rw [if_neg e, if_neg e, List.map_append]; rfl
theorem drpA_abs (L : List Fl) (x : ByteArray) : (drp L x).map absF = drpA (L.map absF) x := by
  unfold drp drpA
  rw [List.filter_map]; rfl
theorem loseA_abs (L : List Fl) (k : Int) (t : Bool) : (L.map (loseF k t)).map absF = (L.map absF).map (loseA k t) := by
  rw [List.map_map, List.map_map]; rfl
theorem totA_abs (L : List Fl) : totA (L.map absF) = total L := by
  unfold totA total
  rw [List.map_map]; rfl
theorem findA_abs (h : Hd) (L : List Fl) (x : ByteArray) : findA h (L.map absF) x = findE h L x := by
  unfold findA findE
  rw [lookA_abs, Option.isSome_map]
theorem Apd.abs {L L2 : List Fl} {x : ByteArray} {c : List UInt8} (h : Apd L x c L2) : L2.map absF = apdA (L.map absF) x c := by
  obtain ⟨f', h1, h2, h3, rfl⟩ := h
  rw [updA_abs]
  unfold apdA
  rw [lookA_abs]
  congr 1
  unfold absF
  rw [h1, h2, h3]
  unfold datL safL
  cases look L x with
  | none => rfl
  | some f => rfl
theorem SyE.abs {L L2 : List Fl} {x : ByteArray} (h : SyE L x L2) : L2.map absF = synA (L.map absF) x := by
  obtain ⟨f, hl, rfl⟩ := h
  unfold synA
  rw [lookA_abs, hl, updA_abs, ← (look_some hl).2]; rfl
theorem CuE.abs {L L2 : List Fl} {x : ByteArray} {n : Nat} (h : CuE L x n L2) : L2.map absF = cutA (L.map absF) x n := by
  obtain ⟨f, hl, rfl⟩ := h
  unfold cutA
  rw [lookA_abs, hl, updA_abs, ← (look_some hl).2]; rfl
theorem RnE.abs {L L2 : List Fl} {x y : ByteArray} (h : RnE L x y L2) : L2.map absF = renA (L.map absF) x y := by
  obtain ⟨f, hl, rfl⟩ := h
  unfold renA
  rw [lookA_abs, hl, updA_abs, drpA_abs]; rfl
/-- The blocks from B on below n. -/
def In (B n k : Nat) : Prop := B ≤ k ∧ k < n
structure DA (B n b : Nat) (h : Hd) (A : List Ab) (w : World) : Prop where
  e : ∃ S L, L.map absF = A ∧ Dev S b h L w ∧ ∀ k, S k → In B n k
  n : n ≤ w.heap.size
theorem DA.below {B n b : Nat} {h : Hd} {A : List Ab} {w w' : World} (d : DA B n b h A w) (hB : Below w.heap.size w w') : DA B n b h A w' := by
  obtain ⟨S, L, h1, h2, h3⟩ := d.e
  exact ⟨⟨S, L, h1, h2.below hB, h3⟩, Nat.le_trans d.n hB.size⟩
/-- An act: what is answered, and what is then. -/
def stepA (h : Hd) (A A1 : List Ab) (pre stays : Int) : Int × Hd × List Ab :=
  if pre ≠ 0 then (pre, h, A)
  else if h.left ≠ 1 then (0, ⟨h.room, h.acts + 1, false, max (h.left - 1) 0, h.keep, h.torn⟩, A1)
  else (7, ⟨h.room, h.acts + 1, true, 0, 0, false⟩, (if doesB stays h.keep = true then A1 else A).map (loseA h.keep h.torn))
structure StepA (B n b : Nat) (w : World) (r : Int × Hd × List Ab) (e : Ending) (w' : World) : Prop where
  e : e = .returned (.int .i64 r.1)
  d : DA B w'.heap.size b r.2.1 r.2.2 w'
  k : Kept (In B n) w w'
theorem gr_in {S : Nat → Prop} {B n : Nat} {w w' : World} (hS : ∀ k, S k → In B n k) (hn : n ≤ w.heap.size) (hB : B ≤ n) (hs : w.heap.size ≤ w'.heap.size) : ∀ k, Gr S w w' k → In B w'.heap.size k := fun k hk => by
  rcases hk with hk | hk
  · have := hS k hk; exact ⟨this.1, by have := this.2; omega⟩
  · exact ⟨by omega, hk.2⟩
theorem OpR.step {S : Nat → Prop} {B n b : Nat} {h : Hd} {L : List Fl} {pre stays : Int} {E : List Fl → Prop} {w w' : World} {e : Ending} {A1 : List Ab} (o : OpR S b h L pre stays E w e w') (hE : ∀ L2, E L2 → L2.map absF = A1) (hS : ∀ k, S k → In B n k) (hn : n ≤ w.heap.size) (hB : B ≤ n) :
    StepA B n b w (stepA h (L.map absF) A1 pre stays) e w' := by
  unfold stepA
  rcases o.r with ⟨h1, h2, h3, h4⟩ | ⟨h1, a⟩
  · rw [if_pos h1]
    exact ⟨h2, ⟨⟨_, L, rfl, h3, gr_in hS hn hB h4.size⟩, Nat.le_refl _⟩, h4.mono hS⟩
  · rw [if_neg (by simp [h1])]
    rcases a.r with ⟨h2, h3, L2, h4, h5⟩ | ⟨h2, h3, L2, h4, h5⟩
    · rw [if_pos h2]
      exact ⟨h3, ⟨⟨_, L2, hE L2 h4, h5, gr_in hS hn hB a.k.size⟩, Nat.le_refl _⟩, a.k.mono hS⟩
    · rw [if_neg (by simp [h2])]
      refine ⟨h3, ⟨⟨_, _, ?_, h5, gr_in hS hn hB a.k.size⟩, Nat.le_refl _⟩, a.k.mono hS⟩
      rw [loseA_abs]
      by_cases hd : doesB stays h.keep = true
      · rw [if_pos hd] at h4 ⊢; rw [hE L2 h4]
      · rw [if_neg hd] at h4 ⊢; rw [h4]
/-- What is asked of a device's numbers. -/
structure HdOk (h : Hd) : Prop where
  room : 0 ≤ h.room ∧ h.room ≤ 1048576
  left : 0 ≤ h.left ∧ h.left ≤ 9223372036854775807
  acts : 0 ≤ h.acts ∧ h.acts ≤ 1099511627776
theorem tot_le {A : List Ab} {y : Ab} (hf : y ∈ A) : y.2.1.length ≤ totA A := by
  unfold totA
  induction A with
  | nil => cases hf
  | cons g r ih =>
    rcases List.mem_cons.1 hf with rfl | h
    · simp
    · have := ih h; simp only [List.map_cons, List.sum_cons]; omega
theorem newA (room : Int) (w : World) : Calls Try.prog 11 #[.int .i64 room] w fun e w' => e = .returned (.pointer (some ⟨w.heap.size + 1, 0, none⟩)) ∧ DA w.heap.size w'.heap.size (w.heap.size + 1) (newH room) [] w' ∧ Below w.heap.size w w' :=
  (new_any room w).mono fun e w' ⟨h1, h2, h3, h4⟩ => ⟨h1, ⟨⟨_, [], rfl, h2, fun k hk => ⟨hk.1, by rw [h4]; exact hk.2⟩⟩, Nat.le_refl _⟩, h3⟩
theorem appendA {B n b : Nat} {h : Hd} {A : List Ab} {w : World} (d : DA B n b h A w) (hB : B ≤ n) (ho : HdOk h) (ht : totA A ≤ 1048576) (hn : A.length ≤ 1048576) (x : ByteArray) (u : Value) (c : List UInt8) (hu : Byt (In B n) w u c) (hc : c.length ≤ 16777216) :
    Calls Try.prog 46 #[.pointer (some ⟨b, 0, none⟩), .string x, u] w (StepA B n b w (stepA h A (apdA A x c) (if readyE h x ≠ 0 then readyE h x else if h.room - (totA A : Nat) < (c.length : Nat) then 6 else 0) 0)) := by
  obtain ⟨S, L, rfl, h2, h3⟩ := d.e
  rw [totA_abs] at ht ⊢
  exact (append_any h2 (fun k hk => Nat.lt_of_lt_of_le (h3 k hk).2 d.n) x u c ⟨fun w1 hk => hu.a w1 (hk.mono h3)⟩ ho.room ht ho.left ho.acts (by simpa using hn) hc).mono fun e w' o => o.step (fun L2 => Apd.abs) h3 d.n hB
theorem len_of {L : List Fl} (ht : totA (L.map absF) ≤ 1048576) : ∀ f ∈ L, f.d.length ≤ 16777216 := fun f hf => by
  rw [totA_abs] at ht
  have := total_le hf; omega
theorem syncA {B n b : Nat} {h : Hd} {A : List Ab} {w : World} (d : DA B n b h A w) (hB : B ≤ n) (ho : HdOk h) (ht : totA A ≤ 1048576) (x : ByteArray) :
    Calls Try.prog 45 #[.pointer (some ⟨b, 0, none⟩), .string x] w (StepA B n b w (stepA h A (synA A x) (findA h A x) 2)) := by
  obtain ⟨S, L, rfl, h2, h3⟩ := d.e
  rw [findA_abs]
  exact (sync_any h2 (fun k hk => Nat.lt_of_lt_of_le (h3 k hk).2 d.n) x (len_of ht) ho.left ho.acts).mono fun e w' o => o.step (fun L2 => SyE.abs) h3 d.n hB
theorem cutA_any {B n b : Nat} {h : Hd} {A : List Ab} {w : World} (d : DA B n b h A w) (hB : B ≤ n) (ho : HdOk h) (ht : totA A ≤ 1048576) (x : ByteArray) (m : Int) (hm : -9223372036854775808 ≤ m ∧ m ≤ 9223372036854775807) :
    Calls Try.prog 58 #[.pointer (some ⟨b, 0, none⟩), .string x, .int .i64 m] w (StepA B n b w (stepA h A (cutA A x m.toNat) (if findA h A x ≠ 0 then findA h A x else if m < 0 then 1 else 0) 1)) := by
  obtain ⟨S, L, rfl, h2, h3⟩ := d.e
  rw [findA_abs]
  exact (cut_any h2 (fun k hk => Nat.lt_of_lt_of_le (h3 k hk).2 d.n) x (len_of ht) ho.left ho.acts m hm).mono fun e w' o => o.step (fun L2 => CuE.abs) h3 d.n hB
theorem removeA {B n b : Nat} {h : Hd} {A : List Ab} {w : World} (d : DA B n b h A w) (hB : B ≤ n) (ho : HdOk h) (ht : totA A ≤ 1048576) (x : ByteArray) (hx : x.size ≤ maxLen) :
    Calls Try.prog 31 #[.pointer (some ⟨b, 0, none⟩), .string x] w (StepA B n b w (stepA h A (drpA A x) (findA h A x) 1)) := by
  obtain ⟨S, L, rfl, h2, h3⟩ := d.e
  rw [findA_abs]
  exact (remove_any h2 (fun k hk => Nat.lt_of_lt_of_le (h3 k hk).2 d.n) x (len_of ht) ho.left ho.acts hx).mono fun e w' o => o.step (fun L2 h => by rw [h]; exact drpA_abs L x) h3 d.n hB
theorem renameA {B n b : Nat} {h : Hd} {A : List Ab} {w : World} (d : DA B n b h A w) (hB : B ≤ n) (ho : HdOk h) (ht : totA A ≤ 1048576) (hn : A.length ≤ 1048576) (x y : ByteArray) :
    Calls Try.prog 48 #[.pointer (some ⟨b, 0, none⟩), .string x, .string y] w (StepA B n b w (stepA h A (renA A x y) (if findA h A x ≠ 0 then findA h A x else if goodN y = true then 0 else 1) 1)) := by
  obtain ⟨S, L, rfl, h2, h3⟩ := d.e
  rw [findA_abs]
  exact (rename_any h2 (fun k hk => Nat.lt_of_lt_of_le (h3 k hk).2 d.n) x (len_of ht) ho.left ho.acts y (by simpa using hn)).mono fun e w' o => o.step (fun L2 => RnE.abs) h3 d.n hB
theorem offA {B n b : Nat} {h : Hd} {A : List Ab} {w : World} (d : DA B n b h A w) (ht : totA A ≤ 1048576) (keep : Int) (torn : Bool) :
    Calls Try.prog 29 #[.pointer (some ⟨b, 0, none⟩), .int .i64 keep, .bool torn] w fun e w' => e = .returned (.tuple #[]) ∧ DA B n b (if h.down = true then h else offH h) (if h.down = true then A else A.map (loseA keep torn)) w' ∧ Kept (In B n) w w' := by
  obtain ⟨S, L, rfl, h2, h3⟩ := d.e
  by_cases hd : h.down = true
  · rw [if_pos hd, if_pos hd]
    exact (off_down h2 hd keep torn).mono fun e w' ⟨h4, h5⟩ => by subst h5; exact ⟨h4, d, Kept.refl _ _⟩
  · rw [if_neg hd, if_neg hd]
    exact (off_any h2 (by simpa using hd) keep torn (len_of ht)).mono fun e w' ⟨h4, h5, h6⟩ => ⟨h4, ⟨⟨S, _, loseA_abs L keep torn, h5, h3⟩, Nat.le_trans d.n h6.size⟩, h6.mono h3⟩
theorem onA {B n b : Nat} {h : Hd} {A : List Ab} {w : World} (d : DA B n b h A w) : Calls Try.prog 30 #[.pointer (some ⟨b, 0, none⟩)] w fun e w' => e = .returned (.tuple #[]) ∧ DA B n b { h with down := false } A w' ∧ Kept (In B n) w w' := by
  obtain ⟨S, L, rfl, h2, h3⟩ := d.e
  exact (on_any h2).mono fun e w' ⟨h4, h5, h6, _⟩ => ⟨h4, ⟨⟨S, L, rfl, h5, h3⟩, Nat.le_trans d.n h6.size⟩, h6.mono h3⟩
theorem armA {B n b : Nat} {h : Hd} {A : List Ab} {w : World} (d : DA B n b h A w) (m k : Int) (torn : Bool) : Calls Try.prog 27 #[.pointer (some ⟨b, 0, none⟩), .int .i64 m, .int .i64 k, .bool torn] w fun e w' => e = .returned (.tuple #[]) ∧ DA B n b { h with left := max m 0, keep := k, torn := torn } A w' ∧ Kept (In B n) w w' := by
  obtain ⟨S, L, rfl, h2, h3⟩ := d.e
  exact (arm_any h2 m k torn).mono fun e w' ⟨h4, h5, h6, _⟩ => ⟨h4, ⟨⟨S, L, rfl, h5, h3⟩, Nat.le_trans d.n h6.size⟩, h6.mono h3⟩
theorem freeA {B n b : Nat} {h : Hd} {A : List Ab} {w : World} (d : DA B n b h A w) (ho : HdOk h) (ht : totA A ≤ 1048576) : Calls Try.prog 16 #[.pointer (some ⟨b, 0, none⟩)] w fun e w' => e = .returned (.int .i64 (h.room - (totA A : Nat))) ∧ Below w.heap.size w w' := by
  obtain ⟨S, L, rfl, h2, h3⟩ := d.e
  rw [totA_abs] at ht ⊢
  exact free_any h2 ho.room (by omega)
/-- What Read answers. -/
structure ReadA (w : World) (h : Hd) (A : List Ab) (x : ByteArray) (e : Ending) (w' : World) : Prop where
  r : (findA h A x ≠ 0 ∧ e = .returned (.tuple #[.slice none 0 0, .int .i64 (findA h A x)])) ∨ (findA h A x = 0 ∧ ∃ v' y, e = .returned (.tuple #[v', .int .i64 0]) ∧ lookA A x = some y ∧ w'.ownsRow w.heap.size 5 1 v' y.2.1.length (LF bV y.2.1))
  b : Below w.heap.size w w'
theorem readA {B n b : Nat} {h : Hd} {A : List Ab} {w : World} (d : DA B n b h A w) (ht : totA A ≤ 1048576) (x : ByteArray) : Calls Try.prog 15 #[.pointer (some ⟨b, 0, none⟩), .string x] w (ReadA w h A x) := by
  obtain ⟨S, L, rfl, h2, h3⟩ := d.e
  have hf := findA_abs h L x
  by_cases he : findE h L x = 0
  · exact (read_ok h2 (len_of ht) x he).mono fun e w' ⟨v', f, h4, h5, h6, h7⟩ => ⟨.inr ⟨hf.trans he, v', absF f, h4, by rw [lookA_abs, h6]; rfl, h7⟩, h5⟩
  · exact (read_err h2 x he).mono fun e w' ⟨h4, h5⟩ => by subst h5; exact ⟨.inl ⟨by rw [hf]; exact he, by rw [hf]; exact h4⟩, Below.refl _ _⟩
end Go.Proofs.Ytbdlmdmbaajcmaa
namespace Go.Proofs.Ytbdlmdmbaajcmaa
set_option linter.unusedVariables false
set_option linter.unusedSimpArgs false
open Go.ChangeShapes Go.WideShapes Go.ChangeAt Go.RowKit Go.ChangeMaps

def DV (T : Nat → Prop) (b : Nat) (h : Hd) (A : List Ab) (w : World) : Prop := ∃ L, L.map absF = A ∧ Dev T b h L w
theorem DV.below {T : Nat → Prop} {b : Nat} {h : Hd} {A : List Ab} {w w' : World} (d : DV T b h A w) (hB : Below w.heap.size w w') : DV T b h A w' := by
  obtain ⟨L, h1, h2⟩ := d
  exact ⟨L, h1, h2.below hB⟩
theorem DV.kept {T T2 : Nat → Prop} {b : Nat} {h : Hd} {A : List Ab} {w w' : World} (d : DV T b h A w) (hk : Kept T2 w w') (hd : ∀ k, T k → ¬ T2 k) : DV T b h A w' := by
  obtain ⟨L, h1, h2⟩ := d
  exact ⟨L, h1, h2.kept hk hd⟩
theorem DV.mono {T T2 : Nat → Prop} {b : Nat} {h : Hd} {A : List Ab} {w : World} (d : DV T b h A w) (hd : ∀ k, T k → T2 k) : DV T2 b h A w := by
  obtain ⟨L, h1, h2⟩ := d
  exact ⟨L, h1, h2.mono hd⟩
theorem DV.nd {T : Nat → Prop} {b : Nat} {h : Hd} {A : List Ab} {w : World} (d : DV T b h A w) : (A.map (·.1)).Nodup := by
  obtain ⟨L, rfl, h2⟩ := d
  rw [List.map_map]
  exact h2.nm
theorem DV.safe {T : Nat → Prop} {b : Nat} {h : Hd} {A : List Ab} {w : World} (d : DV T b h A w) : ∀ y ∈ A, y.2.2 ≤ y.2.1.length := by
  obtain ⟨L, rfl, h2⟩ := d
  intro y hy
  obtain ⟨f, hf, rfl⟩ := List.mem_map.1 hy
  exact (h2.fo f hf).le
/-- What a call does to the device that it is made of. -/
structure CR (T : Nat → Prop) (b : Nat) (w : World) (r : Int × Hd × List Ab) (e : Ending) (w' : World) : Prop where
  e : e = .returned (.int .i64 r.1)
  d : DV (Gr T w w') b r.2.1 r.2.2 w'
  k : Kept T w w'
theorem OpR.cr {S : Nat → Prop} {b : Nat} {h : Hd} {L : List Fl} {pre stays : Int} {E : List Fl → Prop} {w w' : World} {e : Ending} {A1 : List Ab} (o : OpR S b h L pre stays E w e w') (hE : ∀ L2, E L2 → L2.map absF = A1) : CR S b w (stepA h (L.map absF) A1 pre stays) e w' := by
  unfold stepA
  rcases o.r with ⟨h1, h2, h3, h4⟩ | ⟨h1, a⟩
  · rw [if_pos h1]
    exact ⟨h2, ⟨L, rfl, h3⟩, h4⟩
  · rw [if_neg (by simp [h1])]
    rcases a.r with ⟨h2, h3, L2, h4, h5⟩ | ⟨h2, h3, L2, h4, h5⟩
    · rw [if_pos h2]
      exact ⟨h3, ⟨L2, hE L2 h4, h5⟩, a.k⟩
    · rw [if_neg (by simp [h2])]
      refine ⟨h3, ⟨_, ?_, h5⟩, a.k⟩
      rw [loseA_abs]
      by_cases hd : doesB stays h.keep = true
      · rw [if_pos hd] at h4 ⊢; rw [hE L2 h4]
      · rw [if_neg hd] at h4 ⊢; rw [h4]
section
variable {T : Nat → Prop} {b : Nat} {h : Hd} {A : List Ab} {w : World}
theorem cAppend (d : DV T b h A w) (hT : ∀ k, T k → k < w.heap.size) (ho : HdOk h) (ht : totA A ≤ 1048576) (hn : A.length ≤ 1048576) (x : ByteArray) (u : Value) (c : List UInt8) (hu : Byt T w u c) (hc : c.length ≤ 16777216) :
    Calls Try.prog 46 #[.pointer (some ⟨b, 0, none⟩), .string x, u] w (CR T b w (stepA h A (apdA A x c) (if readyE h x ≠ 0 then readyE h x else if h.room - (totA A : Nat) < (c.length : Nat) then 6 else 0) 0)) := by
  obtain ⟨L, rfl, h2⟩ := d
  rw [totA_abs] at ht ⊢
  exact (append_any h2 hT x u c hu ho.room ht ho.left ho.acts (by simpa using hn) hc).mono fun e w' o => o.cr (fun L2 => Apd.abs)
theorem cSync (d : DV T b h A w) (hT : ∀ k, T k → k < w.heap.size) (ho : HdOk h) (ht : totA A ≤ 1048576) (x : ByteArray) :
    Calls Try.prog 45 #[.pointer (some ⟨b, 0, none⟩), .string x] w (CR T b w (stepA h A (synA A x) (findA h A x) 2)) := by
  obtain ⟨L, rfl, h2⟩ := d
  rw [findA_abs]
  exact (sync_any h2 hT x (len_of ht) ho.left ho.acts).mono fun e w' o => o.cr (fun L2 => SyE.abs)
theorem cCut (d : DV T b h A w) (hT : ∀ k, T k → k < w.heap.size) (ho : HdOk h) (ht : totA A ≤ 1048576) (x : ByteArray) (m : Int) (hm : -9223372036854775808 ≤ m ∧ m ≤ 9223372036854775807) :
    Calls Try.prog 58 #[.pointer (some ⟨b, 0, none⟩), .string x, .int .i64 m] w (CR T b w (stepA h A (cutA A x m.toNat) (if findA h A x ≠ 0 then findA h A x else if m < 0 then 1 else 0) 1)) := by
  obtain ⟨L, rfl, h2⟩ := d
  rw [findA_abs]
  exact (cut_any h2 hT x (len_of ht) ho.left ho.acts m hm).mono fun e w' o => o.cr (fun L2 => CuE.abs)
theorem cRemove (d : DV T b h A w) (hT : ∀ k, T k → k < w.heap.size) (ho : HdOk h) (ht : totA A ≤ 1048576) (x : ByteArray) (hx : x.size ≤ maxLen) :
    Calls Try.prog 31 #[.pointer (some ⟨b, 0, none⟩), .string x] w (CR T b w (stepA h A (drpA A x) (findA h A x) 1)) := by
  obtain ⟨L, rfl, h2⟩ := d
  rw [findA_abs]
  exact (remove_any h2 hT x (len_of ht) ho.left ho.acts hx).mono fun e w' o => o.cr (fun L2 h => by rw [h]; exact drpA_abs L x)
theorem cRename (d : DV T b h A w) (hT : ∀ k, T k → k < w.heap.size) (ho : HdOk h) (ht : totA A ≤ 1048576) (hn : A.length ≤ 1048576) (x y : ByteArray) :
    Calls Try.prog 48 #[.pointer (some ⟨b, 0, none⟩), .string x, .string y] w (CR T b w (stepA h A (renA A x y) (if findA h A x ≠ 0 then findA h A x else if goodN y = true then 0 else 1) 1)) := by
  obtain ⟨L, rfl, h2⟩ := d
  rw [findA_abs]
  exact (rename_any h2 hT x (len_of ht) ho.left ho.acts y (by simpa using hn)).mono fun e w' o => o.cr (fun L2 => RnE.abs)
theorem cOff (d : DV T b h A w) (ht : totA A ≤ 1048576) (keep : Int) (torn : Bool) :
    Calls Try.prog 29 #[.pointer (some ⟨b, 0, none⟩), .int .i64 keep, .bool torn] w fun e w' => e = .returned (.tuple #[]) ∧ DV T b (if h.down = true then h else offH h) (if h.down = true then A else A.map (loseA keep torn)) w' ∧ Kept T w w' := by
  have d0 := d
  obtain ⟨L, rfl, h2⟩ := d
  by_cases hd : h.down = true
  · rw [if_pos hd, if_pos hd]
    exact (off_down h2 hd keep torn).mono fun e w' ⟨h4, h5⟩ => by subst h5; exact ⟨h4, d0, Kept.refl _ _⟩
  · rw [if_neg hd, if_neg hd]
    exact (off_any h2 (by simpa using hd) keep torn (len_of ht)).mono fun e w' ⟨h4, h5, h6⟩ => ⟨h4, ⟨_, loseA_abs L keep torn, h5⟩, h6⟩
theorem cOn (d : DV T b h A w) : Calls Try.prog 30 #[.pointer (some ⟨b, 0, none⟩)] w fun e w' => e = .returned (.tuple #[]) ∧ DV T b { h with down := false } A w' ∧ Kept T w w' := by
  obtain ⟨L, rfl, h2⟩ := d
  exact (on_any h2).mono fun e w' ⟨h4, h5, h6, _⟩ => ⟨h4, ⟨L, rfl, h5⟩, h6⟩
theorem cArm (d : DV T b h A w) (m k : Int) (torn : Bool) : Calls Try.prog 27 #[.pointer (some ⟨b, 0, none⟩), .int .i64 m, .int .i64 k, .bool torn] w fun e w' => e = .returned (.tuple #[]) ∧ DV T b { h with left := max m 0, keep := k, torn := torn } A w' ∧ Kept T w w' := by
  obtain ⟨L, rfl, h2⟩ := d
  exact (arm_any h2 m k torn).mono fun e w' ⟨h4, h5, h6, _⟩ => ⟨h4, ⟨L, rfl, h5⟩, h6⟩
theorem cFree (d : DV T b h A w) (ho : HdOk h) (ht : totA A ≤ 1048576) : Calls Try.prog 16 #[.pointer (some ⟨b, 0, none⟩)] w fun e w' => e = .returned (.int .i64 (h.room - (totA A : Nat))) ∧ Below w.heap.size w w' := by
  obtain ⟨L, rfl, h2⟩ := d
  rw [totA_abs] at ht ⊢
  exact free_any h2 ho.room (by omega)
theorem cRead (d : DV T b h A w) (ht : totA A ≤ 1048576) (x : ByteArray) : Calls Try.prog 15 #[.pointer (some ⟨b, 0, none⟩), .string x] w (ReadA w h A x) := by
  obtain ⟨L, rfl, h2⟩ := d
  have hf := findA_abs h L x
  by_cases he : findE h L x = 0
  · exact (read_ok h2 (len_of ht) x he).mono fun e w' ⟨v', f, h4, h5, h6, h7⟩ => ⟨.inr ⟨hf.trans he, v', absF f, h4, by rw [lookA_abs, h6]; rfl, h7⟩, h5⟩
  · exact (read_err h2 x he).mono fun e w' ⟨h4, h5⟩ => by subst h5; exact ⟨.inl ⟨by rw [hf]; exact he, by rw [hf]; exact h4⟩, Below.refl _ _⟩
theorem cNew (room : Int) (w : World) : Calls Try.prog 11 #[.int .i64 room] w fun e w' => e = .returned (.pointer (some ⟨w.heap.size + 1, 0, none⟩)) ∧ DV (fun k => w.heap.size ≤ k ∧ k < w'.heap.size) (w.heap.size + 1) (newH room) [] w' ∧ Below w.heap.size w w' :=
  (new_any room w).mono fun e w' ⟨h1, h2, h3, h4⟩ => ⟨h1, ⟨[], rfl, h2.mono (fun k hk => ⟨hk.1, by rw [h4]; exact hk.2⟩)⟩, h3⟩
end
end Go.Proofs.Ytbdlmdmbaajcmaa
