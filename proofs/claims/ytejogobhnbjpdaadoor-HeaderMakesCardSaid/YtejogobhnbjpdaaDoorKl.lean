/- Walks: tokens held against each other by value; two rows of tokens. -/
import Derived.Test.YtejogobhnbjpdaaDoorKk
import Derived.DeepKeys
namespace Go.Proofs.YtejogobhnbjpdaaDoor
set_option linter.unusedVariables false
set_option linter.unusedSimpArgs false
open Go.ChangeShapes Go.WideShapes Go.ChangeAt Go.RowKit

def TkB (t : Tk) : Prop := t.1 ≤ 7 ∧ t.2.1.size ≤ 4194304 ∧ t.2.2 ≤ 4194304
theorem tkb0 {k p : Nat} (hk : k ≤ 7) (hp : p ≤ 4194304) : TkB (k, ⟨#[]⟩, p) := ⟨hk, Nat.zero_le _, hp⟩
theorem lits_tk {t : Tk} (h : TkB t) : Tryd.prog.keyLits 2 31 (tkV t) = some [.int .i64 t.1, .string t.2.1.data.toList, .int .i64 t.2.2] := by
  obtain ⟨h1, h2, h3⟩ := h
  have hs : Tryd.prog.keyLits 1 9 [.string t.2.1] = some [.string t.2.1.data.toList] := by
    simp only [Program.keyLits, Tryd.underlying9]
    rw [if_pos (by unfold maxLen; omega)]
  have hi : ∀ z : Nat, z ≤ 4194304 → Tryd.prog.keyLits 1 3 [.int .i64 z] = some [.int .i64 z] := fun z hz => by
    simp only [Program.keyLits, Tryd.underlying3]
    rw [if_pos ⟨trivial, by
      have e1 : IntKind.i64.min = -9223372036854775808 := by decide
      have e2 : IntKind.i64.max = 9223372036854775807 := by decide
      simp only [Lit.wf, Bool.and_eq_true, decide_eq_true_eq, e1, e2]; omega⟩]
  have hc : Tryd.prog.cellsOf 31 = 3 := by kernel_rfl
  have hc9 : Tryd.prog.cellsOf 9 = 1 := by kernel_rfl
  have hc3 : Tryd.prog.cellsOf 3 = 1 := by kernel_rfl
  unfold Program.keyLits tkV
  rw [Tryd.underlying31]
  simp only [List.length_cons, List.length_nil, hc]
  rw [if_pos ⟨trivial, by kernel_rfl⟩]
  simp only [List.mapM_cons, List.mapM_nil, hc9, hc3, List.drop_zero, List.take_succ_cons, List.take_zero, hs, List.drop_succ_cons, hi t.1 (by omega), hi t.2.2 h3]
  rfl
theorem ba_of {a b : ByteArray} (h : a.data.toList = b.data.toList) : a = b := ba_ext h
theorem eq_tk {a b : Tk} (ha : TkB a) (hb : TkB b) (w : World) : (Op.equalIn 10000 31 (.agg (tkV a).toArray) (.agg (tkV b).toArray)).run Tryd.prog w = .ok (decide (a = b)) w := by
  have hc : Tryd.prog.cellsOf 31 = 3 := by kernel_rfl
  have hf : ∀ t : Tk, (Value.agg (tkV t).toArray).formed Tryd.prog 31 = true := fun t => by simp [Value.formed, Tryd.underlying31, hc, tkV]
  obtain ⟨r, hr, hiff⟩ := run_equalIn_deep (P := Tryd.prog) 9998 2 31 (by kernel_rfl) w 2 2 _ _ _ _ (hf a) (hf b) (lits_tk ha) (lits_tk hb)
  have : r = decide (a = b) := by
    rw [Bool.eq_iff_iff, hiff, decide_eq_true_iff]
    obtain ⟨a1, a2, a3⟩ := a
    obtain ⟨b1, b2, b3⟩ := b
    constructor
    · intro h
      simp only [List.cons.injEq, Lit.string.injEq, Lit.int.injEq, true_and, and_true] at h
      have h1 : a1 = b1 := by omega
      have h3 : a3 = b3 := by omega
      rw [ba_of h.2.1, h1, h3]
    · intro h
      cases h; rfl
  rw [← this]
  exact hr
/-- All tokens, and comments, of a text are small. -/
theorem feed_tkb {l : List Tk} (h : ∀ t ∈ l, TkB t) {q : Nat} (hq : q ≤ 4194304) : ∀ t ∈ feedL l q, TkB t := by
  unfold feedL
  cases hl : l.getLast? with
  | none => exact h
  | some t =>
    show ∀ u ∈ (if endsB t = true then l ++ [(6, (⟨#[]⟩ : ByteArray), q)] else l), TkB u
    split
    · intro u hu
      rcases List.mem_append.1 hu with h1 | h1
      · exact h u h1
      · rw [List.mem_singleton.1 h1]; exact tkb0 (by decide) hq
    · exact h
theorem snoc_tkb {l : List Tk} (h : ∀ t ∈ l, TkB t) {x : Tk} (hx : TkB x) : ∀ t ∈ l ++ [x], TkB t := fun u hu => by
  rcases List.mem_append.1 hu with h1 | h1
  · exact h u h1
  · rw [List.mem_singleton.1 h1]; exact hx
theorem lexT_tkb {s : ByteArray} (hs : s.size ≤ 1048576) : ∀ q l m, (∀ t ∈ l, TkB t) → (∀ t ∈ m, TkB t) → (∀ t ∈ (lexT s q l m).1, TkB t) ∧ (∀ t ∈ (lexT s q l m).2, TkB t) := by
  have hex : ∀ q e, (s.extract q e).size ≤ 4194304 := fun q e => by rw [ByteArray.size_extract]; omega
  refine lex_ind s _ ?_ ?_ ?_
  · intro q l m h hl hm
    rw [lexT_out h]
    exact ⟨snoc_tkb (feed_tkb hl (by omega)) (tkb0 (by decide) (by omega)), hm⟩
  · intro q l m f h ht hl hm
    rw [lexT_bad h ht]
    have := (thing_ends h).1 f ht
    exact ⟨snoc_tkb hl (tkb0 (by decide) (by omega)), hm⟩
  · intro q l m h hok ih hl hm
    rw [lexT_step h hok]
    have hk := (th_spec h).2.2.2
    refine ih ?_ ?_
    · cases ht : thing s q with
      | bad f => rw [ht] at hok; cases hok
      | lf => exact feed_tkb hl (by omega)
      | blank => exact hl
      | note e =>
        show ∀ u ∈ (if hasLF s q e = true then feedL l q else l), TkB u
        split
        · exact feed_tkb hl (by omega)
        · exact hl
      | tok k e => exact snoc_tkb hl ⟨by have := hk k e ht; show k ≤ 7; omega, hex q e, by show q ≤ _; omega⟩
    · cases ht : thing s q with
      | note e => exact snoc_tkb hm ⟨Nat.zero_le _, hex q e, by show q ≤ _; omega⟩
      | _ => exact hm
theorem lexL_tkb {s : ByteArray} (hs : s.size ≤ 1048576) : ∀ t ∈ lexL s, TkB t := (lexT_tkb hs _ _ _ (fun _ h => by cases h) (fun _ h => by cases h)).1
theorem lexM_tkb {s : ByteArray} (hs : s.size ≤ 1048576) : ∀ t ∈ lexM s, TkB t := (lexT_tkb hs _ _ _ (fun _ h => by cases h) (fun _ h => by cases h)).2
theorem lexT_lens {s : ByteArray} : ∀ q l m, q ≤ s.size → l.length ≤ q → m.length ≤ q → (lexT s q l m).1.length ≤ s.size + 2 ∧ (lexT s q l m).2.length ≤ s.size := by
  refine lex_ind s _ ?_ ?_ ?_
  · intro q l m h hq hl hm
    rw [lexT_out h]
    have := (feedL_len l s.size).2
    refine ⟨?_, by show m.length ≤ _; omega⟩
    show (feedL l s.size ++ [_]).length ≤ _
    rw [List.length_append, List.length_singleton]; omega
  · intro q l m f h ht hq hl hm
    rw [lexT_bad h ht]
    refine ⟨?_, by show m.length ≤ _; omega⟩
    show (l ++ [_]).length ≤ _
    rw [List.length_append, List.length_singleton]; omega
  · intro q l m h hok ih hq hl hm
    rw [lexT_step h hok]
    have h1 := (lNext_len s q l (thing s q)).2
    have h2 := mNext_len s q m (thing s q)
    have h3 := (thing_ends h).2 hok
    exact ih h3.2.1 (by omega) (by omega)
theorem lexL_len (s : ByteArray) : (lexL s).length ≤ s.size + 2 ∧ (lexM s).length ≤ s.size := lexT_lens _ _ _ (skN_le s) (Nat.zero_le _) (Nat.zero_le _)
theorem same_take {α : Type} {a b : List α} {k : Nat} (ha : k < a.length) (hb : k < b.length) (h : a.take k = b.take k) (e : a[k] = b[k]) : a.take (k + 1) = b.take (k + 1) := by
  rw [List.take_succ_eq_append_getElem ha, List.take_succ_eq_append_getElem hb, h, e]
set_option maxRecDepth 100000 in
set_option maxHeartbeats 1000000 in
theorem same_any (v u : Value) (a b : List Tk) (w : World) (hv : LAt 3 tkV w v a) (hu : LAt 3 tkV w u b) (hA : ∀ t ∈ a, TkB t) (hB : ∀ t ∈ b, TkB t) (hla : a.length ≤ 16777216) (hlb : b.length ≤ 16777216) :
    Calls Tryd.prog 16 #[v, u] w fun e w' => e = .returned (.bool (decide (a = b))) ∧ Below w.heap.size w w' := by
  obtain ⟨p, cap, rfl, hp⟩ := hv.shape
  obtain ⟨q, cap2, rfl, hq⟩ := hu.shape
  have Hp := Lib.hid hp
  have Hq := Lib.hid hq
  have HV := Lib.hid hv
  have HU := Lib.hid hu
  have HA := Lib.hid hA
  have HBB := Lib.hid hB
  by_cases hlen : a.length = b.length
  · obtain ⟨len, hl⟩ : ∃ len, len = a.length := ⟨_, rfl⟩
    rw [← hlen] at Hq HU
    rw [← hlen]
    rw [← hl] at Hp Hq HV HU hla ⊢
    have Ha := Lib.hid hl
    have Hb := Lib.hid (hl.trans hlen)
    clear hv hu hp hq hl hlen hlb hA hB
    go_enter Tryd.func16, Tryd.ntmps16
    go_wp2_with fail
    go_loopg [5, 13] len (fun g _ iv wr => ∃ k : Nat, k + g = len ∧ iv = .int .i64 k ∧ a.take k = b.take k ∧ Below w.heap.size w wr)
    case atStart => exact ⟨0, by omega, rfl, rfl, Below.refl _ _⟩
    case round =>
      obtain ⟨k, hkg, rfl, hno, hB⟩ := hrel
      have Hno := Lib.hid hno
      clear hno
      by_cases hlt : k < len
      · have hltI : (k : Int) < (len : Int) := by omega
        have hka : k < a.length := by have := Ha.out; omega
        have hkb : k < b.length := by have := Hb.out; omega
        obtain ⟨g1, o1, rfl⟩ := Hp.out (by omega)
        obtain ⟨g2, o2, rfl⟩ := Hq.out (by omega)
        have H1 := Lib.hid (fun w1 (h1 : Below wr.heap.size wr w1) => (HV.out.load (i := k) (List.getElem?_eq_getElem hka)).2 w1 (hB.trans (h1.mono hB.size)))
        have H2 := Lib.hid (fun w1 (h1 : Below wr.heap.size wr w1) => (HU.out.load (i := k) (List.getElem?_eq_getElem hkb)).2 w1 (hB.trans (h1.mono hB.size)))
        have heq := fun w1 => eq_tk (HA.out _ (List.getElem_mem hka)) (HBB.out _ (List.getElem_mem hkb)) w1
        obtain ⟨r, hr⟩ : ∃ r, r = decide (a[k] = b[k]) := ⟨_, rfl⟩
        rw [← hr] at heq
        have Hr := Lib.hid hr
        have hB0 := Lib.hid hB
        generalize (tkV a[k]).toArray = x at *
        generalize (tkV b[k]).toArray = y at *
        clear hr hB
        go_wp2_with fail
        cases r with
        | false =>
          have hne : a ≠ b := fun e => by
            subst e
            have := Hr.out
            simp at this
          have Hne := Lib.hid hne
          clear hne
          refine wp_region_class (Below wr.heap.size wr) (by kernel_rfl) (by kernel_rfl) (Below.refl _ _).drew ?_
          repeat (go_big_quiet_step (first | (intro _; rfl)))
          refine wpQuiet_load_at rfl 31 (.tmp 18) rfl ⟨g1, o1 + k * 3, none⟩ rfl (.agg x) H1.out ?_
          simp only [Act.put, List.setIfInBounds_toArray, List.set_cons_succ, List.set_cons_zero]
          repeat (go_big_quiet_step (first | (intro _; rfl)))
          refine wpQuiet_load_at rfl 31 (.tmp 22) rfl ⟨g2, o2 + k * 3, none⟩ rfl (.agg y) H2.out ?_
          simp only [Act.put, List.setIfInBounds_toArray, List.set_cons_succ, List.set_cons_zero]
          repeat (go_big_quiet_step (first | (intro _; rfl)))
          refine wpQuiet_nil ?_
          intro wq hBq
          have hB2 := hB0.out.trans (hBq.mono hB0.out.size)
          clear hBq heq
          go_wp2_with fail
          go_ret
          exact ⟨by rw [decide_eq_false Hne.out]; rfl, hB2⟩
        | true =>
          have Hn := Lib.hid (same_take hka hkb Hno.out (of_decide_eq_true Hr.out.symm))
          refine wp_region_class (Below wr.heap.size wr) (by kernel_rfl) (by kernel_rfl) (Below.refl _ _).drew ?_
          repeat (go_big_quiet_step (first | (intro _; rfl)))
          refine wpQuiet_load_at rfl 31 (.tmp 18) rfl ⟨g1, o1 + k * 3, none⟩ rfl (.agg x) H1.out ?_
          simp only [Act.put, List.setIfInBounds_toArray, List.set_cons_succ, List.set_cons_zero]
          repeat (go_big_quiet_step (first | (intro _; rfl)))
          refine wpQuiet_load_at rfl 31 (.tmp 22) rfl ⟨g2, o2 + k * 3, none⟩ rfl (.agg y) H2.out ?_
          simp only [Act.put, List.setIfInBounds_toArray, List.set_cons_succ, List.set_cons_zero]
          repeat (go_big_quiet_step (first | (intro _; rfl)))
          refine wpQuiet_nil ?_
          intro wq hBq
          have hB2 := hB0.out.trans (hBq.mono hB0.out.size)
          clear hBq heq
          go_wp2_with fail
          go_roundg (gk - 1)
          case measure => omega
          case rel => exact ⟨k + 1, by omega, by go_num, Hn.out, hB2⟩
      · have hnI : ¬ (k : Int) < (len : Int) := by omega
        have Hall : Hid (a = b) := Lib.hid (by
          have h := Hno.out
          rwa [List.take_of_length_le (by have := Ha.out; omega), List.take_of_length_le (by have := Hb.out; omega)] at h)
        go_wp2_with fail
        go_ret
        exact ⟨by rw [decide_eq_true Hall.out]; rfl, hB⟩
  · have hlI : ((a.length : Int) == (b.length : Int)) = false := beq_eq_false_iff_ne.2 (by omega)
    have Hne : Hid (a ≠ b) := Lib.hid (fun e => hlen (by rw [e]))
    clear hv hu hp hq
    go_enter Tryd.func16, Tryd.ntmps16
    go_wp2_with fail
    go_ret
    exact ⟨by rw [decide_eq_false Hne.out]; rfl, Below.refl _ _⟩
end Go.Proofs.YtejogobhnbjpdaaDoor
