/- Walks: a path's place in a list; the plain course of the document's changes. -/
import Derived.Test.YtdhaanaenklleaaDoorEk
namespace Go.Proofs.YtdhaanaenklleaaDoor
set_option linter.unusedVariables false
set_option linter.unusedSimpArgs false
open Go.ChangeShapes Go.WideShapes Go.ChangeAt Go.RowKit

theorem look_at : ∀ (l : List Inp) (p : ByteArray) (k : Nat) (h : k < l.length), (∀ j, ∀ hj : j < l.length, j < k → (l[j]).1 ≠ p) → l[k].1 = p → D.look l p = some l[k].2.1
  | f :: l, p, 0, h, hn, e => by
    show (if f.1 = p then some f.2.1 else D.look l p) = _
    rw [if_pos (show f.1 = p from e)]; rfl
  | f :: l, p, k + 1, h, hn, e => by
    show (if f.1 = p then some f.2.1 else D.look l p) = _
    rw [if_neg (show ¬ f.1 = p from hn 0 (by simp) (by omega))]
    exact look_at l p k (by simpa using h) (fun j hj hjk => hn (j + 1) (by simpa using hj) (by omega)) e
theorem look_not (l : List Inp) (p : ByteArray) (hn : ∀ j, ∀ hj : j < l.length, (l[j]).1 ≠ p) : D.look l p = none := D.look_none.2 fun f hf => by
  obtain ⟨j, hj, rfl⟩ := List.getElem_of_mem hf
  exact hn j hj
/-- What At answers. -/
def AtI (l : List Inp) (p : ByteArray) (i : Int) : Prop := (i = -1 ∧ D.look l p = none) ∨ ∃ k : Nat, i = k ∧ ∃ h : k < l.length, D.look l p = some (l[k]'h).2.1

set_option maxRecDepth 100000 in
set_option maxHeartbeats 2000000 in
theorem at_any (v : Value) (a : List Inp) (p : ByteArray) (w : World) (hv : Rows w 33 inpR v a) (hn : a.length ≤ 9223372036854775806) :
    Calls Tryd.prog 71 #[v, .string p] w fun e w' => (∃ i, e = .returned (.int .i64 i) ∧ AtI a p i) ∧ Below w.heap.size w w' := by
  obtain ⟨q, cap, rfl, hp⟩ := hv.shape
  have Hp := Lib.hid hp
  obtain ⟨len, hl⟩ : ∃ len, len = a.length := ⟨_, rfl⟩
  rw [← hl] at Hp hn ⊢
  have Ha := Lib.hid hl
  clear hv hp hl
  go_enter Tryd.func71, Tryd.ntmps71
  go_wp2_with fail
  go_loopg [9] len (fun g iv wr => ∃ k : Nat, k + g = len ∧ iv = .int .i64 k ∧ (∀ j, ∀ hj : j < a.length, j < k → (a[j]).1 ≠ p) ∧ Below w.heap.size w wr)
  case atStart => exact ⟨0, by omega, rfl, fun j hj h => by omega, Below.refl _ _⟩
  case round =>
    obtain ⟨k, hkg, rfl, hno, hB⟩ := hrel
    have Hno := Lib.hid hno
    clear hno
    by_cases hlt : k < len
    · have hltI : (k : Int) < (len : Int) := by omega
      have hka : k < a.length := by have := Ha.out; omega
      obtain ⟨b, off, rfl, hb, hcap, hmax, hcell⟩ := Hp.out (by omega)
      obtain ⟨ecs, he, hl33, hat⟩ := hcell k a[k] (List.getElem?_eq_getElem hka)
      obtain ⟨rfl, hsz, h32⟩ := inp_cells he
      have Hrg := Lib.hid (show wr.rangeAt b (off + k * 33) (.string a[k].1 :: bytV a[k].2.1) from fun j z hz => by
        have hj := (List.getElem?_eq_some_iff.1 hz).1
        rw [← hz, ← hat j (by omega)]
        exact hB.cell (p := ⟨b, off + k * 33 + j, none⟩) hb)
      have hbox := fun old => box_cell wr old a[k].1 a[k].2.1
      have Hone := Lib.hid (one_cells a[k].1 a[k].2.1)
      have hi0 : (Tryd.prog.info? 113).map (·.size) = some 33 := by kernel_rfl
      have Hi1 := Lib.hid (show (Tryd.prog.info? 113).map (·.size) = some (Value.string a[k].1 :: bytV a[k].2.1).length by rw [hi0, hl33])
      have Hi2 := Lib.hid (show (Tryd.prog.info? 113).map (·.size) = some ((Value.string a[k].1 :: bytV a[k].2.1).toArray).size by rw [hi0, List.size_toArray, hl33])
      have Hsz := Lib.hid (show 33 = ((Value.string a[k].1 :: bytV a[k].2.1).toArray).size by rw [List.size_toArray, hl33])
      have Hbl := Lib.hid (fun old => below_setRow (hB.alloc hB.size (.cells old 113)) hB.size (Value.string a[k].1 :: bytV a[k].2.1).toArray)
      have Hyes := Lib.hid (fun (e : a[k].1 = p) => look_at a p k hka Hno.out e)
      have Hnext := Lib.hid (fun (e : ¬ a[k].1 = p) => (fun j hj h => by
        by_cases hjk : j = k
        · subst hjk; exact e
        · exact Hno.out j hj (by omega) : ∀ j, ∀ hj : j < a.length, j < k + 1 → (a[j]).1 ≠ p))
      generalize hdv : a[k].2.1 = dv at *
      generalize a[k].1 = z at *
      generalize bytV dv = l at *
      unfold maxLen at hmax
      clear hB hcell he hat hi0 h32 hl33
      by_cases hzp : z = p
      · have hsb := beq_of hzp
        have Hzp := Lib.hid hzp
        clear hzp
        go_wp2_with (first | (refine wpList_load_mid rfl 113 (.tmp 12) rfl b (off + k * 33) rfl (.string z :: l) _ Hrg.out Tryd.underlying113 rfl Hi1.out ?_) | (refine wpList_store_rowTo rfl 113 (.tmp 6) (.tmp 13) rfl rfl wr.heap.size (Value.string z :: l).toArray rfl rfl 113 _ (heap_alloc_new wr _) Hi2.out (by rw [← Hsz.out]; rfl) Hone.out ?_))
        go_ret
        exact ⟨⟨_, rfl, .inr ⟨k, rfl, hka, by rw [Hyes.out Hzp.out, hdv]⟩⟩, Hbl.out _⟩
      · have hsb := beq_of_ne hzp
        have Hzp := Lib.hid hzp
        clear hzp
        go_wp2_with (first | (refine wpList_load_mid rfl 113 (.tmp 12) rfl b (off + k * 33) rfl (.string z :: l) _ Hrg.out Tryd.underlying113 rfl Hi1.out ?_) | (refine wpList_store_rowTo rfl 113 (.tmp 6) (.tmp 13) rfl rfl wr.heap.size (Value.string z :: l).toArray rfl rfl 113 _ (heap_alloc_new wr _) Hi2.out (by rw [← Hsz.out]; rfl) Hone.out ?_))
        go_roundg (gk - 1)
        case measure => omega
        case rel => exact ⟨k + 1, by omega, by go_num, Hnext.out Hzp.out, Hbl.out _⟩
    · have hnI : ¬ (k : Int) < (len : Int) := by omega
      have Hall := Lib.hid (look_not a p (fun j hj => Hno.out j hj (by have := Ha.out; omega)))
      go_wp2_with fail
      go_ret
      exact ⟨⟨_, rfl, .inl ⟨rfl, Hall.out⟩⟩, hB⟩

theorem baseL_cons (b : List Inp) (f : Inp) (l : List Inp) : D.baseL b (f :: l) = match D.look b f.1 with | none => (f.1, 2) :: D.baseL b l | some d => if d = f.2.1 then D.baseL b l else (f.1, 3) :: D.baseL b l := rfl
theorem base_app (b : List Inp) : ∀ x y : List Inp, D.baseL b (x ++ y) = D.baseL b x ++ D.baseL b y
  | [], y => rfl
  | f :: x, y => by
    rw [List.cons_append, baseL_cons, baseL_cons, base_app b x y]
    cases D.look b f.1 with
    | none => rfl
    | some d => simp only; split <;> rfl
theorem baseL_none {b x : List Inp} {f : Inp} (h : D.look b f.1 = none) : D.baseL b (x ++ [f]) = D.baseL b x ++ [(f.1, 2)] := by
  rw [base_app]; congr 1
  show (match D.look b f.1 with | none => (f.1, (2 : Int)) :: D.baseL b [] | some d => if d = f.2.1 then D.baseL b [] else (f.1, 3) :: D.baseL b []) = _
  rw [h]; rfl
theorem base_same {b x : List Inp} {f : Inp} {d : List UInt8} (h : D.look b f.1 = some d) (e : d = f.2.1) : D.baseL b (x ++ [f]) = D.baseL b x := by
  rw [base_app]
  have : D.baseL b [f] = [] := by
    show (match D.look b f.1 with | none => (f.1, (2 : Int)) :: D.baseL b [] | some d => if d = f.2.1 then D.baseL b [] else (f.1, 3) :: D.baseL b []) = _
    rw [h]; simp only; rw [if_pos e]; rfl
  rw [this, List.append_nil]
theorem base_diff {b x : List Inp} {f : Inp} {d : List UInt8} (h : D.look b f.1 = some d) (e : ¬ d = f.2.1) : D.baseL b (x ++ [f]) = D.baseL b x ++ [(f.1, 3)] := by
  rw [base_app]; congr 1
  show (match D.look b f.1 with | none => (f.1, (2 : Int)) :: D.baseL b [] | some d => if d = f.2.1 then D.baseL b [] else (f.1, 3) :: D.baseL b []) = _
  rw [h]; simp only; rw [if_neg e]; rfl
theorem ofL_cons (a : List Inp) (f : Inp) (l : List Inp) (out : List D.Chg) : D.ofL cmpP a (f :: l) out = if D.look a f.1 = none then D.ofL cmpP a l (D.insL cmpP out f.1) else D.ofL cmpP a l out := rfl
theorem ofL_app (a : List Inp) : ∀ (x y : List Inp) (out : List D.Chg), D.ofL cmpP a (x ++ y) out = D.ofL cmpP a y (D.ofL cmpP a x out)
  | [], y, out => rfl
  | f :: x, y, out => by
    rw [List.cons_append, ofL_cons, ofL_cons]
    split
    · exact ofL_app a x y _
    · exact ofL_app a x y _
theorem ofL_none {a x : List Inp} {f : Inp} {out : List D.Chg} (h : D.look a f.1 = none) : D.ofL cmpP a (x ++ [f]) out = D.insL cmpP (D.ofL cmpP a x out) f.1 := by
  rw [ofL_app]
  show (if D.look a f.1 = none then _ else _) = _
  rw [if_pos h]; rfl
theorem ofL_some {a x : List Inp} {f : Inp} {out : List D.Chg} (h : ¬ D.look a f.1 = none) : D.ofL cmpP a (x ++ [f]) out = D.ofL cmpP a x out := by
  rw [ofL_app]
  show (if D.look a f.1 = none then _ else _) = _
  rw [if_neg h]; rfl
theorem base_len (b : List Inp) : ∀ a : List Inp, (D.baseL b a).length ≤ a.length
  | [] => Nat.le_refl _
  | f :: a => by
    have ih := base_len b a
    unfold D.baseL
    split
    · simp only [List.length_cons]; omega
    · split
      · simp only [List.length_cons]; omega
      · simp only [List.length_cons]; omega
theorem ins_len (out : List D.Chg) (p : ByteArray) : (D.insL cmpP out p).length = out.length + 1 := by
  have := D.atL_le (cmp := cmpP) out p out.length
  unfold D.insL
  simp only [List.length_append, List.length_take, List.length_drop, List.length_cons, List.length_nil]
  omega
theorem ofL_len (a : List Inp) : ∀ (b : List Inp) (out : List D.Chg), (D.ofL cmpP a b out).length ≤ out.length + b.length
  | [], out => Nat.le_refl _
  | f :: b, out => by
    unfold D.ofL
    split
    · have := ofL_len a b (D.insL cmpP out f.1); rw [ins_len] at this; simp only [List.length_cons]; omega
    · have := ofL_len a b out; simp only [List.length_cons]; omega
theorem base_size {b : List Inp} {n : Nat} : ∀ {a : List Inp}, (∀ x ∈ a, x.1.size ≤ n) → ∀ x ∈ D.baseL b a, x.1.size ≤ n := by
  intro a h x hx
  obtain ⟨f, hf, e⟩ := D.base_paths b a x hx
  rw [← e]; exact h f hf
theorem ofL_size {a : List Inp} {n : Nat} : ∀ {b : List Inp} {out : List D.Chg}, (∀ x ∈ b, x.1.size ≤ n) → (∀ x ∈ out, x.1.size ≤ n) → ∀ x ∈ D.ofL cmpP a b out, x.1.size ≤ n
  | [], out, _, ho, x, hx => ho x hx
  | f :: b, out, hb, ho, x, hx => by
    unfold D.ofL at hx
    split at hx
    · exact ofL_size (fun y hy => hb y (List.mem_cons_of_mem _ hy)) (fun y hy => by
        rcases (D.insL_mem _ _ _).1 hy with h | h
        · exact ho y h
        · rw [h]; exact hb f List.mem_cons_self) x hx
    · exact ofL_size (fun y hy => hb y (List.mem_cons_of_mem _ hy)) ho x hx
end Go.Proofs.YtdhaanaenklleaaDoor
