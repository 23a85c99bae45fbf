/- Walks: Sync, Cut, Remove. -/
import Derived.Test.YtfmcemedaehcoaaWj
namespace Go.Proofs.Ytfmcemedaehcoaa
set_option linter.unusedVariables false
set_option linter.unusedSimpArgs false
open Go.ChangeShapes Go.WideShapes Go.ChangeAt Go.RowKit Go.ChangeMaps

theorem findE_err {h : Hd} {L : List Fl} {x : ByteArray} (he : findE h L x ≠ 0) : findP h L x = .pointer none := by
  unfold findE at he
  unfold findP
  by_cases hr : readyE h x = 0
  · rw [if_neg (by simp [hr])] at he ⊢
    cases hl : look L x with
    | none => rfl
    | some f => rw [hl] at he; simp at he
  · rw [if_pos hr]
theorem findE_parts {h : Hd} {L : List Fl} {x : ByteArray} (he : findE h L x = 0) : h.down = false ∧ x.size ≤ 32 ∧ ∃ f, look L x = some f ∧ f ∈ L ∧ f.nm = x ∧ findP h L x = .pointer (some ⟨f.B, 0, none⟩) := by
  obtain ⟨hr, f, hl, hp⟩ := findE_ok he
  exact ⟨(readyE_ok hr).1, (goodN_size (readyE_ok hr).2).2, f, hl, (look_some hl).1, (look_some hl).2, hp⟩
def SyE (L : List Fl) (x : ByteArray) (L2 : List Fl) : Prop := ∃ f, look L x = some f ∧ L2 = upd L (syncF f)
theorem SyE.le {L L2 : List Fl} {x : ByteArray} (h : SyE L x L2) {N : Nat} (hL : ∀ f ∈ L, f.d.length ≤ N) : ∀ f ∈ L2, f.d.length ≤ N := by
  obtain ⟨f, hl, rfl⟩ := h
  intro g hg
  rcases upd_mem hg with rfl | ⟨hg, _⟩
  · exact hL f (look_some hl).1
  · exact hL g hg
theorem Does.weak {S : Nat → Prop} {b : Nat} {L : List Fl} {E E2 : List Fl → Prop} {fn : FuncId} {caps : Array Value} {w : World} (h : Does S b L E fn caps w) (he : ∀ L2, E L2 → E2 L2) : Does S b L E2 fn caps w := fun w1 h1 d hk =>
  (h w1 h1 d hk).mono fun e w2 ⟨h2, L2, h3, h4, h5⟩ => ⟨h2, L2, he L2 h3, h4, h5⟩
set_option maxRecDepth 100000 in
set_option maxHeartbeats 1000000 in
theorem sync_any {S : Nat → Prop} {b : Nat} {h : Hd} {L : List Fl} {w : World} (d : Dev S b h L w) (hS : ∀ k, S k → k < w.heap.size) (x : ByteArray) (hL : ∀ f ∈ L, f.d.length ≤ 16777216) (hl : 0 ≤ h.left ∧ h.left ≤ 9223372036854775807) (ha : 0 ≤ h.acts ∧ h.acts ≤ 1099511627776) :
    Calls Try.prog 28 #[.pointer (some ⟨b, 0, none⟩), .string x] w (OpR S b h L (findE h L x) 2 (SyE L x) w) := by
  have HF := Lib.hid (find_any d x)
  have HD := Lib.hid d
  have HL := Lib.hid hL
  by_cases he : findE h L x = 0
  · obtain ⟨hdn, hx, f, hlk, hf, hfx, hp⟩ := findE_parts he
    rw [he, hp] at HF
    rw [he]
    have hB2 : Below w.heap.size w (w.alloc (.cells #[.pointer (some ⟨f.B, 0, none⟩)] 64)) := (Below.refl _ w).alloc (Nat.le_refl _) _
    have n1 : (w.alloc (.cells #[.pointer (some ⟨f.B, 0, none⟩)] 64)).heap[w.heap.size]? = some (.cells #[.pointer (some ⟨f.B, 0, none⟩)] 64 (0, 0)) := heap_alloc_new _ _
    have HB2 := Lib.hid hB2
    have N1 := Lib.hid n1
    clear d he hp hB2 n1
    go_enter Try.func28, Try.ntmps28
    go_wp2_with fail
    refine HF.out.mono ?_
    rintro e1 w1 ⟨rfl, rfl⟩
    go_wp2_with fail
    generalize w.alloc (.cells #[.pointer (some ⟨f.B, 0, none⟩)] 64) = wb at *
    have hns : ∀ n, ¬ S (w.heap.size + n) := fun n hn => by have := hS _ hn; omega
    refine (act_any (HD.out.below HB2.out) hdn hl ha 2 (SyE L x) 48 _ (fun w1 => by kernel_rfl) ((sync1 hf ⟨N1.out, hns 0⟩).weak (fun L2 h2 => ⟨f, hlk, h2⟩)) (fun L2 h2 => h2.le HL.out) HL.out).mono ?_
    intro e9 w9 h9
    have HE := Lib.hid (h9.of HB2.out)
    clear h9 hns
    rcases HE.out.r with ⟨h1, h2, rest⟩ | ⟨h1, h2, rest⟩
    · subst h2
      clear rest
      go_wp2_with fail
      go_ret
      exact ⟨.inr ⟨rfl, HE.out⟩⟩
    · subst h2
      clear rest
      go_wp2_with fail
      go_ret
      exact ⟨.inr ⟨rfl, HE.out⟩⟩
  · have hp := findE_err he
    rw [hp] at HF
    generalize findE h L x = pre at *
    have hrb : (pre != 0) = true := by simpa using he
    have HB2 : Hid (Below w.heap.size w (w.alloc (.cells #[.pointer none] 64))) := Lib.hid ((Below.refl _ w).alloc (Nat.le_refl _) _)
    clear d hp
    go_enter Try.func28, Try.ntmps28
    go_wp2_with fail
    refine HF.out.mono ?_
    rintro e1 w1 ⟨rfl, rfl⟩
    go_wp2_with fail
    generalize w.alloc (.cells #[.pointer none] 64) = wb at *
    go_wp2_with fail
    go_ret
    exact ⟨.inl ⟨he, rfl, (HD.out.below HB2.out).mono (fun k hk => .inl hk), Kept.of_below HB2.out⟩⟩
end Go.Proofs.Ytfmcemedaehcoaa
