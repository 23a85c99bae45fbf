/- Walks: Cut, Remove, Rename. -/
import Derived.Test.YtfmcemedaehcoaaWk
namespace Go.Proofs.Ytfmcemedaehcoaa
set_option linter.unusedVariables false
set_option linter.unusedSimpArgs false
open Go.ChangeShapes Go.WideShapes Go.ChangeAt Go.RowKit Go.ChangeMaps

theorem boxes2 (w : World) (v1 v2 : Value) (t1 t2 : TypeId) : Hid (Below w.heap.size w ((w.alloc (.cells #[v1] t1)).alloc (.cells #[v2] t2)) ∧
    ((w.alloc (.cells #[v1] t1)).alloc (.cells #[v2] t2)).heap[w.heap.size]? = some (.cells #[v1] t1 (0, 0)) ∧
    ((w.alloc (.cells #[v1] t1)).alloc (.cells #[v2] t2)).heap[w.heap.size + 1]? = some (.cells #[v2] t2 (0, 0)) ∧ ((w.alloc (.cells #[v1] t1)).alloc (.cells #[v2] t2)).heap.size = w.heap.size + 1 + 1) := by
  have h := (boxes3 w v1 v2 v2 t1 t2 t2).out
  have b1 : Below w.heap.size w (w.alloc (.cells #[v1] t1)) := (Below.refl _ w).alloc (Nat.le_refl _) _
  have s1 : (w.alloc (.cells #[v1] t1)).heap.size = w.heap.size + 1 := by simp
  have n1 : (w.alloc (.cells #[v1] t1)).heap[w.heap.size]? = some (.cells #[v1] t1 (0, 0)) := heap_alloc_new _ _
  have n2 : ((w.alloc (.cells #[v1] t1)).alloc (.cells #[v2] t2)).heap[(w.alloc (.cells #[v1] t1)).heap.size]? = some (.cells #[v2] t2 (0, 0)) := heap_alloc_new _ _
  have d1 : Below (w.alloc (.cells #[v1] t1)).heap.size (w.alloc (.cells #[v1] t1)) ((w.alloc (.cells #[v1] t1)).alloc (.cells #[v2] t2)) := (Below.refl _ _).alloc (Nat.le_refl _) _
  rw [s1] at n2
  exact Lib.hid ⟨b1.alloc b1.size _, (d1.block _ (by rw [s1]; omega)).trans n1, n2, by simp⟩
theorem boxes4 (w : World) (v1 v2 v3 v4 : Value) (t1 t2 t3 t4 : TypeId) : Hid (Below w.heap.size w ((((w.alloc (.cells #[v1] t1)).alloc (.cells #[v2] t2)).alloc (.cells #[v3] t3)).alloc (.cells #[v4] t4)) ∧
    ((((w.alloc (.cells #[v1] t1)).alloc (.cells #[v2] t2)).alloc (.cells #[v3] t3)).alloc (.cells #[v4] t4)).heap[w.heap.size]? = some (.cells #[v1] t1 (0, 0)) ∧
    ((((w.alloc (.cells #[v1] t1)).alloc (.cells #[v2] t2)).alloc (.cells #[v3] t3)).alloc (.cells #[v4] t4)).heap[w.heap.size + 1]? = some (.cells #[v2] t2 (0, 0)) ∧
    ((((w.alloc (.cells #[v1] t1)).alloc (.cells #[v2] t2)).alloc (.cells #[v3] t3)).alloc (.cells #[v4] t4)).heap[w.heap.size + 1 + 1]? = some (.cells #[v3] t3 (0, 0)) ∧
    ((((w.alloc (.cells #[v1] t1)).alloc (.cells #[v2] t2)).alloc (.cells #[v3] t3)).alloc (.cells #[v4] t4)).heap[w.heap.size + 1 + 1 + 1]? = some (.cells #[v4] t4 (0, 0))) := by
  obtain ⟨h1, h2, h3, h4⟩ := (boxes3 w v1 v2 v3 t1 t2 t3).out
  have s : (((w.alloc (.cells #[v1] t1)).alloc (.cells #[v2] t2)).alloc (.cells #[v3] t3)).heap.size = w.heap.size + 1 + 1 + 1 := by simp
  generalize ((w.alloc (.cells #[v1] t1)).alloc (.cells #[v2] t2)).alloc (.cells #[v3] t3) = wa at *
  have n1 : (wa.alloc (.cells #[v4] t4)).heap[wa.heap.size]? = some (.cells #[v4] t4 (0, 0)) := heap_alloc_new _ _
  have d1 : Below wa.heap.size wa (wa.alloc (.cells #[v4] t4)) := (Below.refl _ _).alloc (Nat.le_refl _) _
  rw [s] at n1
  exact Lib.hid ⟨h1.alloc h1.size _, (d1.block _ (by omega)).trans h2, (d1.block _ (by omega)).trans h3, (d1.block _ (by omega)).trans h4, n1⟩
def CuE (L : List Fl) (x : ByteArray) (n : Nat) (L2 : List Fl) : Prop := ∃ f, look L x = some f ∧ L2 = upd L (cutF n f)
theorem CuE.le {L L2 : List Fl} {x : ByteArray} {n : Nat} (h : CuE L x n L2) {N : Nat} (hL : ∀ f ∈ L, f.d.length ≤ N) : ∀ f ∈ L2, f.d.length ≤ N := by
  obtain ⟨f, hl, rfl⟩ := h
  intro g hg
  rcases upd_mem hg with rfl | ⟨hg, _⟩
  · have := hL f (look_some hl).1
    simp only [cutF, List.length_take]; omega
  · exact hL g hg
theorem drp_le {L : List Fl} {x : ByteArray} {N : Nat} (hL : ∀ f ∈ L, f.d.length ≤ N) : ∀ f ∈ drp L x, f.d.length ≤ N := fun f hf => hL f (drp_mem.1 hf).1
def RnE (L : List Fl) (x y : ByteArray) (L2 : List Fl) : Prop := ∃ f, look L x = some f ∧ L2 = upd (drp L x) (renF f y)
theorem RnE.le {L L2 : List Fl} {x y : ByteArray} (h : RnE L x y L2) {N : Nat} (hL : ∀ f ∈ L, f.d.length ≤ N) : ∀ f ∈ L2, f.d.length ≤ N := by
  obtain ⟨f, hl, rfl⟩ := h
  intro g hg
  rcases upd_mem hg with rfl | ⟨hg, _⟩
  · exact hL f (look_some hl).1
  · exact drp_le hL g hg
set_option maxRecDepth 100000 in
set_option maxHeartbeats 1000000 in
theorem cut_any {S : Nat → Prop} {b : Nat} {h : Hd} {L : List Fl} {w : World} (d : Dev S b h L w) (hS : ∀ k, S k → k < w.heap.size) (x : ByteArray) (hL : ∀ f ∈ L, f.d.length ≤ 16777216) (hl : 0 ≤ h.left ∧ h.left ≤ 9223372036854775807) (ha : 0 ≤ h.acts ∧ h.acts ≤ 1099511627776) (n : Int) (hn : -9223372036854775808 ≤ n ∧ n ≤ 9223372036854775807) :
    Calls Try.prog 29 #[.pointer (some ⟨b, 0, none⟩), .string x, .int .i64 n] w (OpR S b h L (if findE h L x ≠ 0 then findE h L x else if n < 0 then 1 else 0) 1 (CuE L x n.toNat) w) := by
  have HF := Lib.hid (fun w1 (hB : Below w.heap.size w w1) => find_any (d.below hB) x)
  have HD := Lib.hid d
  have HL := Lib.hid hL
  have HB1 : Hid (Below w.heap.size w (w.alloc (.cells #[.int .i64 n] 3))) := Lib.hid ((Below.refl _ w).alloc (Nat.le_refl _) _)
  by_cases he : findE h L x = 0
  · rw [if_neg (by simp [he])]
    obtain ⟨hdn, hx, f, hlk, hf, hfx, hp⟩ := findE_parts he
    rw [he, hp] at HF
    have HB := boxes2 w (.int .i64 n) (.pointer (some ⟨f.B, 0, none⟩)) 3 64
    have c0 := block_cell HB.out.2.1 0
    clear d he hp
    by_cases hn0 : n < 0
    · rw [if_pos hn0]
      have hlt : decide (n < 0) = true := decide_eq_true hn0
      go_enter Try.func29, Try.ntmps29
      go_wp2_with fail
      refine (HF.out _ HB1.out).mono ?_
      rintro e1 w1 ⟨rfl, rfl⟩
      go_wp2_with fail
      generalize (w.alloc (.cells #[.int .i64 n] 3)).alloc (.cells #[.pointer (some ⟨f.B, 0, none⟩)] 64) = wb at *
      go_wp2_with fail
      go_ret
      exact ⟨.inl ⟨by decide, rfl, (HD.out.below HB.out.1).mono (fun k hk => .inl hk), Kept.of_below HB.out.1⟩⟩
    · rw [if_neg hn0]
      have hlt : decide (n < 0) = false := decide_eq_false hn0
      have hnn : Hid (n = (n.toNat : Nat)) := Lib.hid (by omega)
      go_enter Try.func29, Try.ntmps29
      go_wp2_with fail
      refine (HF.out _ HB1.out).mono ?_
      rintro e1 w1 ⟨rfl, rfl⟩
      go_wp2_with fail
      generalize (w.alloc (.cells #[.int .i64 n] 3)).alloc (.cells #[.pointer (some ⟨f.B, 0, none⟩)] 64) = wb at *
      go_wp2_with fail
      have HB2 := Lib.hid HB.out.1
      have hns : ∀ n, ¬ S (w.heap.size + n) := fun n hn => by have := hS _ hn; omega
      refine (act_any (HD.out.below HB2.out) hdn hl ha 1 (CuE L x n.toNat) 49 _ (fun w1 => by kernel_rfl) ((cut1 n.toNat (by omega) hf (HL.out f hf) ⟨HB.out.2.2.1, hns 1⟩ ⟨by rw [← hnn.out]; exact HB.out.2.1, hns 0⟩).weak (fun L2 h2 => ⟨f, hlk, h2⟩)) (fun L2 h2 => h2.le HL.out) HL.out).mono ?_
      intro e9 w9 h9
      have HE := Lib.hid (h9.of HB2.out)
      clear h9 hns
      rcases HE.out.r with ⟨h1, h2, rest⟩ | ⟨h1, h2, rest⟩
      · subst h2
        clear rest
        go_wp2_with fail
        go_ret
        exact ⟨.inr ⟨rfl, HE.out⟩⟩
      · subst h2
        clear rest
        go_wp2_with fail
        go_ret
        exact ⟨.inr ⟨rfl, HE.out⟩⟩
  · rw [if_pos he]
    have hp := findE_err he
    rw [hp] at HF
    generalize findE h L x = pre at *
    have hrb : (pre != 0) = true := by simpa using he
    have HB := boxes2 w (.int .i64 n) (.pointer none) 3 64
    clear d hp
    go_enter Try.func29, Try.ntmps29
    go_wp2_with fail
    refine (HF.out _ HB1.out).mono ?_
    rintro e1 w1 ⟨rfl, rfl⟩
    go_wp2_with fail
    generalize (w.alloc (.cells #[.int .i64 n] 3)).alloc (.cells #[.pointer none] 64) = wb at *
    go_wp2_with fail
    go_ret
    exact ⟨.inl ⟨he, rfl, (HD.out.below HB.out.1).mono (fun k hk => .inl hk), Kept.of_below HB.out.1⟩⟩
set_option maxRecDepth 100000 in
set_option maxHeartbeats 1000000 in
theorem remove_any {S : Nat → Prop} {b : Nat} {h : Hd} {L : List Fl} {w : World} (d : Dev S b h L w) (hS : ∀ k, S k → k < w.heap.size) (x : ByteArray) (hL : ∀ f ∈ L, f.d.length ≤ 16777216) (hl : 0 ≤ h.left ∧ h.left ≤ 9223372036854775807) (ha : 0 ≤ h.acts ∧ h.acts ≤ 1099511627776) (hxs : x.size ≤ maxLen) :
    Calls Try.prog 31 #[.pointer (some ⟨b, 0, none⟩), .string x] w (OpR S b h L (findE h L x) 1 (fun L2 => L2 = drp L x) w) := by
  have HB := boxes2 w (.pointer (some ⟨b, 0, none⟩)) (.string x) 25 9
  have HF := Lib.hid (fun w1 (hB : Below w.heap.size w w1) => find_any (d.below hB) x)
  have HD := Lib.hid d
  have HL := Lib.hid hL
  have c0 := block_cell HB.out.2.1 0
  have c1 := block_cell HB.out.2.2.1 0
  by_cases he : findE h L x = 0
  · obtain ⟨hdn, hx, f, hlk, hf, hfx, hp⟩ := findE_parts he
    rw [he, hp] at HF
    rw [he]
    clear d he hp
    go_enter Try.func31, Try.ntmps31
    go_wp2_with fail
    generalize (w.alloc (.cells #[.pointer (some ⟨b, 0, none⟩)] 25)).alloc (.cells #[.string x] 9) = wb at *
    go_wp2_with fail
    refine (HF.out _ HB.out.1).mono ?_
    rintro e1 w1 ⟨rfl, rfl⟩
    go_wp2_with fail
    have HB2 := Lib.hid HB.out.1
    have hns : ∀ n, ¬ S (w.heap.size + n) := fun n hn => by have := hS _ hn; omega
    refine (act_any (HD.out.below HB2.out) hdn hl ha 1 (fun L2 => L2 = drp L x) 52 _ (fun w1 => by kernel_rfl) (remove1 hxs ⟨HB.out.2.1, hns 0⟩ ⟨HB.out.2.2.1, hns 1⟩) (fun L2 h2 => by rw [h2]; exact drp_le HL.out) HL.out).mono ?_
    intro e9 w9 h9
    have HE := Lib.hid (h9.of HB2.out)
    clear h9 hns
    rcases HE.out.r with ⟨h1, h2, rest⟩ | ⟨h1, h2, rest⟩
    · subst h2
      clear rest
      go_wp2_with fail
      go_ret
      exact ⟨.inr ⟨rfl, HE.out⟩⟩
    · subst h2
      clear rest
      go_wp2_with fail
      go_ret
      exact ⟨.inr ⟨rfl, HE.out⟩⟩
  · have hp := findE_err he
    rw [hp] at HF
    generalize findE h L x = pre at *
    have hrb : (pre != 0) = true := by simpa using he
    clear d hp
    go_enter Try.func31, Try.ntmps31
    go_wp2_with fail
    generalize (w.alloc (.cells #[.pointer (some ⟨b, 0, none⟩)] 25)).alloc (.cells #[.string x] 9) = wb at *
    go_wp2_with fail
    refine (HF.out _ HB.out.1).mono ?_
    rintro e1 w1 ⟨rfl, rfl⟩
    go_wp2_with fail
    go_ret
    exact ⟨.inl ⟨he, rfl, (HD.out.below HB.out.1).mono (fun k hk => .inl hk), Kept.of_below HB.out.1⟩⟩
set_option maxRecDepth 100000 in
set_option maxHeartbeats 1000000 in
theorem rename_any {S : Nat → Prop} {b : Nat} {h : Hd} {L : List Fl} {w : World} (d : Dev S b h L w) (hS : ∀ k, S k → k < w.heap.size) (x : ByteArray) (hL : ∀ f ∈ L, f.d.length ≤ 16777216) (hl : 0 ≤ h.left ∧ h.left ≤ 9223372036854775807) (ha : 0 ≤ h.acts ∧ h.acts ≤ 1099511627776) (y : ByteArray) (hLn : L.length ≤ 1048576) :
    Calls Try.prog 30 #[.pointer (some ⟨b, 0, none⟩), .string x, .string y] w (OpR S b h L (if findE h L x ≠ 0 then findE h L x else if goodN y = true then 0 else 1) 1 (RnE L x y) w) := by
  have HB0 := boxes3 w (.pointer (some ⟨b, 0, none⟩)) (.string x) (.string y) 25 9 9
  have HF := Lib.hid (fun w1 (hB : Below w.heap.size w w1) => find_any (d.below hB) x)
  have HN := Lib.hid (fun w1 => named_any y w1)
  have HD := Lib.hid d
  have HL := Lib.hid hL
  have c0 := block_cell HB0.out.2.1 0
  have c1 := block_cell HB0.out.2.2.1 0
  by_cases he : findE h L x = 0
  · rw [if_neg (by simp [he])]
    obtain ⟨hdn, hx, f, hlk, hf, hfx, hp⟩ := findE_parts he
    rw [he, hp] at HF
    have HB := boxes4 w (.pointer (some ⟨b, 0, none⟩)) (.string x) (.string y) (.pointer (some ⟨f.B, 0, none⟩)) 25 9 9 64
    have d0 := block_cell HB.out.2.1 0
    have d2 := block_cell HB.out.2.2.2.1 0
    clear d he hp
    by_cases hg : goodN y = true
    · rw [if_pos hg]
      rw [hg] at HN
      have hy := (goodN_size hg).2
      go_enter Try.func30, Try.ntmps30
      go_wp2_with fail
      refine (HF.out _ HB0.out.1).mono ?_
      rintro e1 w1 ⟨rfl, rfl⟩
      go_wp2_with fail
      generalize (((w.alloc (.cells #[.pointer (some ⟨b, 0, none⟩)] 25)).alloc (.cells #[.string x] 9)).alloc (.cells #[.string y] 9)).alloc (.cells #[.pointer (some ⟨f.B, 0, none⟩)] 64) = wb at *
      go_wp2_with fail
      refine (HN.out _).mono ?_
      rintro e1 w1 ⟨rfl, rfl⟩
      go_wp2_with fail
      have HB2 := Lib.hid HB.out.1
      have hns : ∀ n, ¬ S (w.heap.size + n) := fun n hn => by have := hS _ hn; omega
      refine (act_any (HD.out.below HB2.out) hdn hl ha 1 (RnE L x y) 51 _ (fun w1 => by kernel_rfl) ((rename1 hy hf hLn ⟨HB.out.2.1, hns 0⟩ ⟨by rw [hfx]; exact HB.out.2.2.1, hns 1⟩ ⟨HB.out.2.2.2.2, hns 3⟩ ⟨HB.out.2.2.2.1, hns 2⟩).weak (fun L2 h2 => ⟨f, hlk, by rw [h2, hfx]⟩)) (fun L2 h2 => h2.le HL.out) HL.out).mono ?_
      intro e9 w9 h9
      have HE := Lib.hid (h9.of HB2.out)
      clear h9 hns
      rcases HE.out.r with ⟨h1, h2, rest⟩ | ⟨h1, h2, rest⟩
      · subst h2
        clear rest
        go_wp2_with fail
        go_ret
        exact ⟨.inr ⟨rfl, HE.out⟩⟩
      · subst h2
        clear rest
        go_wp2_with fail
        go_ret
        exact ⟨.inr ⟨rfl, HE.out⟩⟩
    · rw [if_neg hg]
      rw [Bool.not_eq_true] at hg
      rw [hg] at HN
      go_enter Try.func30, Try.ntmps30
      go_wp2_with fail
      refine (HF.out _ HB0.out.1).mono ?_
      rintro e1 w1 ⟨rfl, rfl⟩
      go_wp2_with fail
      generalize (((w.alloc (.cells #[.pointer (some ⟨b, 0, none⟩)] 25)).alloc (.cells #[.string x] 9)).alloc (.cells #[.string y] 9)).alloc (.cells #[.pointer (some ⟨f.B, 0, none⟩)] 64) = wb at *
      go_wp2_with fail
      refine (HN.out _).mono ?_
      rintro e1 w1 ⟨rfl, rfl⟩
      go_wp2_with fail
      go_ret
      exact ⟨.inl ⟨by decide, rfl, (HD.out.below HB.out.1).mono (fun k hk => .inl hk), Kept.of_below HB.out.1⟩⟩
  · rw [if_pos he]
    have hp := findE_err he
    rw [hp] at HF
    generalize findE h L x = pre at *
    have hrb : (pre != 0) = true := by simpa using he
    have HB := boxes4 w (.pointer (some ⟨b, 0, none⟩)) (.string x) (.string y) (.pointer none) 25 9 9 64
    clear d hp
    go_enter Try.func30, Try.ntmps30
    go_wp2_with fail
    refine (HF.out _ HB0.out.1).mono ?_
    rintro e1 w1 ⟨rfl, rfl⟩
    go_wp2_with fail
    generalize (((w.alloc (.cells #[.pointer (some ⟨b, 0, none⟩)] 25)).alloc (.cells #[.string x] 9)).alloc (.cells #[.string y] 9)).alloc (.cells #[.pointer none] 64) = wb at *
    go_wp2_with fail
    go_ret
    exact ⟨.inl ⟨he, rfl, (HD.out.below HB.out.1).mono (fun k hk => .inl hk), Kept.of_below HB.out.1⟩⟩
end Go.Proofs.Ytfmcemedaehcoaa
