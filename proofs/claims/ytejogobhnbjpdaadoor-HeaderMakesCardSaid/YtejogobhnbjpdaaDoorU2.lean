/- What a mark ahead of a text changes: the places alone; Walks: alive of stage 12; What a text's header holds is small. -/
import Derived.Test.YtejogobhnbjpdaaDoorP4
import Derived.Test.YtejogobhnbjpdaaDoorGz
import Derived.Test.YtejogobhnbjpdaaDoorU1
namespace Go.Proofs.YtejogobhnbjpdaaDoor
set_option linter.unusedVariables false
set_option linter.unusedSimpArgs false

abbrev mkB : ByteArray := ⟨#[239, 187, 191]⟩
theorem app_get (a b : ByteArray) (i : Nat) : (a ++ b).data[a.size + i]! = b.data[i]! := by
  have e : (a ++ b).data = a.data ++ b.data := ByteArray.data_append
  have hs : a.size = a.data.size := rfl
  rw [e, getElem!_def, getElem!_def, Array.getElem?_append_right (by omega), hs, Nat.add_sub_cancel_left]
theorem app_size (a b : ByteArray) : (a ++ b).size = a.size + b.size := ByteArray.size_append
theorem tl_app (a b : ByteArray) : Tl b (a ++ b) a.size := ⟨app_size a b, fun i => app_get a b i⟩
theorem tl_mk (b : ByteArray) : Tl b (mkB ++ b) 3 := tl_app mkB b
theorem mark_m {b S : ByteArray} {d : Nat} (h : Tl b S d) : ∀ (q : Nat) (l m : List Tk), Mk b d q → ∀ l', (lexT S (d + q) l' (m.map (tkSh d))).2 = (lexT b q l m).2.map (tkSh d) := by
  refine lex_ind b _ ?_ ?_ ?_
  · intro q l m hq hm l'
    rw [lexT_out hq, lexT_out (fun x => hq ((h.lt q).1 x))]
  · intro q l m f hq ht hm l'
    rw [lexT_bad hq ht, lexT_bad ((h.lt q).2 hq) (by rw [h.thing hq hm, ht]; rfl)]
  · intro q l m hq hok ih hm l'
    have he := (thing_ends hq).2 hok
    have ht := h.thing hq hm
    have hok' : (thing S (d + q)).ok = true := by
      rw [ht]; revert hok; cases thing b q <;> (intro x; first | rfl | (cases x))
    rw [lexT_step hq hok, lexT_step ((h.lt q).2 hq) hok', ht]
    have ih := fun l' => ih (by obtain ⟨he, _⟩ := he; have := hm.add ((thing b q).en q - q); rw [show q + ((thing b q).en q - q) = (thing b q).en q by omega] at this; exact this) l'
    cases hb : thing b q with
    | bad f => rw [hb] at hok; cases hok
    | lf => rw [hb] at ih; exact ih _
    | blank => rw [hb] at ih; exact ih _
    | note e =>
      rw [hb] at ih he
      have he1 : q < e := he.1
      have he2 : e ≤ b.size := he.2.1
      have e1 : S.extract (d + q) (d + e) = b.extract q e := by
        have := ext_ag (h.ag (q := q) (n := e - q) (by omega))
        rw [show d + q + (e - q) = d + e by omega, show q + (e - q) = e by omega] at this
        exact this
      show (lexT S (d + e) _ (m.map (tkSh d) ++ [(0, S.extract (d + q) (d + e), d + q)])).2 = _
      have ih : ∀ l', (lexT S (d + e) l' ((m ++ [(0, b.extract q e, q)]).map (tkSh d))).2 = _ := ih
      rw [e1, ← ih]
      congr 2
      simp [tkSh]
    | tok k e => rw [hb] at ih; exact ih _
theorem sk_mk (b : ByteArray) : skN (mkB ++ b) = 3 := by
  unfold skN
  have e : (mkB ++ b).data.toList = 239 :: 187 :: 191 :: b.data.toList := by
    rw [ByteArray.data_append, Array.toList_append]; rfl
  rw [e, if_pos (by simp [Lib.hasPrefix])]
theorem sk_no {b : ByteArray} (hb : Lib.hasPrefix b.data.toList [239, 187, 191] = false) : skN b = 0 := by
  unfold skN; rw [hb]; rfl
theorem mark_lex {b : ByteArray} (hb : Lib.hasPrefix b.data.toList [239, 187, 191] = false) : lexL (mkB ++ b) = (lexL b).map (tkSh 3) ∧ lexM (mkB ++ b) = (lexM b).map (tkSh 3) := by
  have hm : Mk b 3 0 := .inr (.inr (no_mark hb))
  have h1 := parts_second (tl_mk b) (T := []) (fun t ht => by cases ht) 0 [] [] hm []
  have h2 := mark_m (tl_mk b) 0 [] [] hm []
  constructor
  · show (lexT (mkB ++ b) (skN (mkB ++ b)) [] []).1 = _
    rw [sk_mk]
    show _ = ((lexT b (skN b) [] []).1).map (tkSh 3)
    rw [sk_no hb]
    simpa using h1
  · show (lexT (mkB ++ b) (skN (mkB ++ b)) [] []).2 = _
    rw [sk_mk]
    show _ = ((lexT b (skN b) [] []).2).map (tkSh 3)
    rw [sk_no hb]
    simpa using h2
/-! ### Tokens that stand further on -/
section
variable {T : List Tk} {d : Nat}
theorem tk_sh {i : Nat} (h : i < T.length) : tk (T.map (tkSh d)) i = tkSh d (tk T i) := by
  unfold tk
  rw [List.getD_eq_getElem?_getD, List.getD_eq_getElem?_getD, List.getElem?_map, List.getElem?_eq_getElem h]
  rfl
theorem tk_out {i : Nat} (h : ¬ i < T.length) : tk T i = (0, ⟨#[]⟩, 0) := by
  unfold tk
  rw [List.getD_eq_getElem?_getD, List.getElem?_eq_none (by omega)]
  rfl
theorem tk_sh1 (i : Nat) : (tk (T.map (tkSh d)) i).1 = (tk T i).1 := by
  by_cases h : i < T.length
  · rw [tk_sh h]; rfl
  · rw [tk_out h, tk_out (by rw [List.length_map]; exact h)]
theorem tk_sh2 (i : Nat) : (tk (T.map (tkSh d)) i).2.1 = (tk T i).2.1 := by
  by_cases h : i < T.length
  · rw [tk_sh h]; rfl
  · rw [tk_out h, tk_out (by rw [List.length_map]; exact h)]
theorem tIs_sh (k : Nat) (t : ByteArray) (i : Nat) : tIs k t (tk (T.map (tkSh d)) i) = tIs k t (tk T i) := by unfold tIs; rw [tk_sh1, tk_sh2]
theorem tSemi_sh (i : Nat) : tSemi (tk (T.map (tkSh d)) i) = tSemi (tk T i) := by unfold tSemi; rw [tk_sh1]
theorem tName_sh (i : Nat) : tName (tk (T.map (tkSh d)) i) = tName (tk T i) := by unfold tName; rw [tk_sh1, tk_sh2]
theorem named_sh (i : Nat) : named (tk (T.map (tkSh d)) i) = named (tk T i) := by unfold named; rw [tIs_sh, tName_sh]
theorem clauseR_sh : clauseR (T.map (tkSh d)) = clauseR T := by
  unfold clauseR; rw [tIs_sh, tk_sh2, tName_sh, tSemi_sh]
def imSh (d : Nat) (m : Im) : Im := (m.1, m.2.1, d + m.2.2)
theorem specR_sh (i : Nat) : specR (T.map (tkSh d)) i = ((specR T i).1.map (imSh d), (specR T i).2) := by
  unfold specR
  rw [named_sh, tk_sh1, tk_sh2, tk_sh2]
  split
  · rename_i h
    have hi : i < T.length := by
      apply Classical.byContradiction
      intro hn
      have hge : i ≤ nx (named (tk T i)) i := by unfold nx; split <;> omega
      rw [tk_out (show ¬ nx (named (tk T i)) i < T.length by omega)] at h
      exact absurd h.1 (by decide)
    rw [tk_sh hi]
    rfl
  · rfl
theorem specsR_out {i : Nat} (I : List Im) (h : ¬ i < T.length) : specsR T i I = (false, i, I) := by rw [specsR, dif_neg h]
theorem specsR_sh : ∀ (n i : Nat) (I : List Im), T.length - i ≤ n → specsR (T.map (tkSh d)) i (I.map (imSh d)) = ((specsR T i I).1, (specsR T i I).2.1, (specsR T i I).2.2.map (imSh d)) := by
  intro n
  induction n using Nat.strongRecOn with
  | _ n ih =>
    intro i I hn
    have hl : (T.map (tkSh d)).length = T.length := List.length_map _
    by_cases hi : i < T.length
    case neg => rw [specsR_out _ hi, specsR_out _ (by rw [hl]; exact hi)]
    have hi' : i < (T.map (tkSh d)).length := by rw [hl]; exact hi
    by_cases hc : tIs 5 ⟨#[41]⟩ (tk T i) = true
    · rw [specsR_close _ hi hc, specsR_close _ hi' (by rw [tIs_sh]; exact hc)]
    rw [Bool.not_eq_true] at hc
    have hc' : tIs 5 ⟨#[41]⟩ (tk (T.map (tkSh d)) i) = false := by rw [tIs_sh]; exact hc
    have hsp := specR_sh (T := T) (d := d) i
    cases hs : (specR T i).1 with
    | none =>
      have hs' : (specR (T.map (tkSh d)) i).1 = none := by rw [hsp, hs]; rfl
      rw [specsR_none _ hi hc hs, specsR_none _ hi' hc' hs', hsp]
    | some m =>
      have hs' : (specR (T.map (tkSh d)) i).1 = some (imSh d m) := by rw [hsp, hs]; rfl
      have hp := specR_pos hs
      rw [specsR_some _ hi hc hs, specsR_some _ hi' hc' hs', hsp]
      show (if tSemi (tk (T.map (tkSh d)) (specR T i).2) = true then _ else if (tk (T.map (tkSh d)) (specR T i).2).2.1 = _ then _ else _) = _
      rw [tSemi_sh, tk_sh2]
      have em : I.map (imSh d) ++ [imSh d m] = (I ++ [m]).map (imSh d) := by simp
      show (if tSemi (tk T (specR T i).2) = true then specsR (T.map (tkSh d)) ((specR T i).2 + 1) (I.map (imSh d) ++ [imSh d m]) else if (tk T (specR T i).2).2.1 = _ then specsR (T.map (tkSh d)) (specR T i).2 (I.map (imSh d) ++ [imSh d m]) else (false, (specR T i).2, I.map (imSh d) ++ [imSh d m])) = _
      rw [em]
      split
      · exact ih (T.length - ((specR T i).2 + 1)) (by omega) _ _ (Nat.le_refl _)
      · split
        · exact ih (T.length - (specR T i).2) (by omega) _ _ (Nat.le_refl _)
        · rfl
theorem specs1_sh (i : Nat) (I : List Im) : specs1 (T.map (tkSh d)) i (I.map (imSh d)) = ((specs1 T i I).1, (specs1 T i I).2.1, (specs1 T i I).2.2.map (imSh d)) := by
  unfold specs1
  rw [tIs_sh, specR_sh]
  split
  · exact specsR_sh _ _ _ (Nat.le_refl _)
  · cases (specR T i).1 <;> simp
theorem declR_out {i : Nat} (I : List Im) (h : ¬ i < T.length) : declR T i I = (false, i, I) := by rw [declR, dif_neg h]
theorem declR_back {i : Nat} (I : List Im) (h : i < T.length) (hc : tIs 1 wImport (tk T i) = true) (hg : ¬ i < (specs1 T (i + 1) I).2.1) : declR T i I = (false, i, I) := by
  rw [declR, dif_pos h, if_pos hc, dif_neg hg]
theorem declR_sh : ∀ (n i : Nat) (I : List Im), T.length - i ≤ n → declR (T.map (tkSh d)) i (I.map (imSh d)) = ((declR T i I).1, (declR T i I).2.1, (declR T i I).2.2.map (imSh d)) := by
  intro n
  induction n using Nat.strongRecOn with
  | _ n ih =>
    intro i I hn
    have hl : (T.map (tkSh d)).length = T.length := List.length_map _
    by_cases hi : i < T.length
    case neg => rw [declR_out _ hi, declR_out _ (by rw [hl]; exact hi)]
    have hi' : i < (T.map (tkSh d)).length := by rw [hl]; exact hi
    by_cases hc : tIs 1 wImport (tk T i) = true
    case neg =>
      rw [Bool.not_eq_true] at hc
      rw [declR_end _ hi hc, declR_end _ hi' (by rw [tIs_sh]; exact hc)]
    have hc' : tIs 1 wImport (tk (T.map (tkSh d)) i) = true := by rw [tIs_sh]; exact hc
    have hsp := specs1_sh (T := T) (d := d) (i + 1) I
    by_cases hg : i < (specs1 T (i + 1) I).2.1
    case neg => rw [declR_back _ hi hc hg, declR_back _ hi' hc' (by rw [hsp]; exact hg)]
    have hg' : i < (specs1 (T.map (tkSh d)) (i + 1) (I.map (imSh d))).2.1 := by rw [hsp]; exact hg
    by_cases h1 : (specs1 T (i + 1) I).1 = true
    case neg =>
      rw [Bool.not_eq_true] at h1
      rw [declR_bad _ hi hc hg h1, declR_bad _ hi' hc' hg' (by rw [hsp]; exact h1), hsp]
    rw [declR_on _ hi hc hg h1, declR_on _ hi' hc' hg' (by rw [hsp]; exact h1), hsp]
    show (if tSemi (tk (T.map (tkSh d)) (specs1 T (i + 1) I).2.1) = true then _ else _) = _
    rw [tSemi_sh]
    split
    · exact ih (T.length - ((specs1 T (i + 1) I).2.1 + 1)) (by omega) _ _ (Nat.le_refl _)
    · rfl
theorem beginR_sh : beginR (T.map (tkSh d)) = ((beginR T).1, (beginR T).2.1, (beginR T).2.2.map (imSh d)) := by
  have hd : declR (T.map (tkSh d)) 3 [] = _ := declR_sh (T := T) (d := d) _ 3 [] (Nat.le_refl _)
  unfold beginR
  rw [clauseR_sh, hd, tk_sh1, tk_sh1]
  split
  · rfl
  · split <;> rfl
end
/-! ### Texts behind a mark -/
theorem ext_mk (t : ByteArray) (i j : Nat) (hij : i ≤ j) (hj : j ≤ t.size) : (mkB ++ t).extract (3 + i) (3 + j) = t.extract i j := by
  have := ext_ag ((tl_mk t).ag (q := i) (n := j - i) (by omega))
  rw [show 3 + i + (j - i) = 3 + j by omega, show i + (j - i) = j by omega] at this
  exact this
theorem ext_mk0 (t : ByteArray) (j : Nat) (hj : j ≤ t.size) : (mkB ++ t).extract 0 (3 + j) = mkB ++ t.extract 0 j := by
  apply ba_ext
  rw [Lib.extract_data, ByteArray.data_append, ByteArray.data_append, Array.toList_append, Array.toList_append, Lib.extract_data, List.drop_zero, List.drop_zero, Nat.sub_zero, Nat.sub_zero]
  show List.take (3 + j) (239 :: 187 :: 191 :: t.data.toList) = 239 :: 187 :: 191 :: List.take j t.data.toList
  rw [Nat.add_comm 3 j]
  rfl
theorem mk_low : ∀ j, j < 3 → ((mkB.data[j]!).toNat : Int) ≠ 10 := by
  intro j hj
  rcases (by omega : j = 0 ∨ j = 1 ∨ j = 2) with rfl | rfl | rfl <;> decide
theorem mk_get_low (t : ByteArray) (j : Nat) (hj : j < 3) : (mkB ++ t).data[j]! = mkB.data[j]! := by
  have e : (mkB ++ t).data = mkB.data ++ t.data := ByteArray.data_append
  rw [e, getElem!_def, getElem!_def, Array.getElem?_append_left (by show j < 3; exact hj)]
theorem last_mk (t : ByteArray) : (Lib.lastIndexByte t 10 = -1 ∧ Lib.lastIndexByte (mkB ++ t) 10 = -1) ∨ ∃ n : Nat, n < t.size ∧ Lib.lastIndexByte t 10 = n ∧ Lib.lastIndexByte (mkB ++ t) 10 = ((3 + n : Nat) : Int) := by
  have hsz : (mkB ++ t).size = 3 + t.size := app_size mkB t
  have hget : ∀ j, (mkB ++ t).data[3 + j]! = t.data[j]! := fun j => app_get mkB t j
  rcases Lib.lastIdx_spec t 10 t.size with ⟨h1, h2⟩ | ⟨n, hn, h1, h2, h3⟩ <;> rcases Lib.lastIdx_spec (mkB ++ t) 10 (mkB ++ t).size with ⟨k1, k2⟩ | ⟨m, hm, k1, k2, k3⟩
  · exact .inl ⟨h1, k1⟩
  · exfalso
    rcases Nat.lt_or_ge m 3 with hlt | hge
    · rw [mk_get_low t m hlt] at k2
      exact mk_low m hlt k2
    · have := hget (m - 3)
      rw [show 3 + (m - 3) = m by omega] at this
      rw [this] at k2
      exact h2 (m - 3) (by omega) k2
  · exfalso
    have := k2 (3 + n) (by omega)
    rw [hget] at this
    exact this h2
  · right
    refine ⟨n, hn, h1, ?_⟩
    show Lib.lastIdx (mkB ++ t) 10 (mkB ++ t).size = _
    rw [k1]
    have hge : 3 ≤ m := by
      rcases Nat.lt_or_ge m 3 with hlt | hge
      · rw [mk_get_low t m hlt] at k2
        exact absurd k2 (mk_low m hlt)
      · exact hge
    have hmg := hget (m - 3)
    rw [show 3 + (m - 3) = m by omega] at hmg
    rw [hmg] at k2
    have e : m = 3 + n := by
      rcases (by omega : m - 3 < n ∨ m - 3 = n ∨ n < m - 3) with h | h | h
      · exfalso
        have := k3 (3 + n) (by omega) (by omega)
        rw [hget] at this
        exact this h2
      · omega
      · exact absurd k2 (h3 (m - 3) h (by omega))
    rw [e]
theorem no_mark_pre {b : ByteArray} (hb : Lib.hasPrefix b.data.toList [239, 187, 191] = false) (p : Nat) : Lib.hasPrefix (b.extract 0 p).data.toList [239, 187, 191] = false := by
  rw [Bool.eq_false_iff] at hb ⊢
  intro h
  apply hb
  unfold Lib.hasPrefix at h ⊢
  rw [List.isPrefixOf_iff_prefix] at h ⊢
  refine h.trans ?_
  rw [Lib.extract_data]
  simp only [List.drop_zero]
  exact List.take_prefix _ _
theorem lineB_mk {t : ByteArray} (ht : Lib.hasPrefix t.data.toList [239, 187, 191] = false) : lineB (mkB ++ t) = lineB t := by
  have hsz : (mkB ++ t).size = 3 + t.size := app_size mkB t
  unfold lineB lineN
  rw [hsz]
  rcases last_mk t with ⟨h1, h2⟩ | ⟨n, hn, h1, h2⟩
  · rw [h1, h2, if_pos (by decide), if_pos (by decide), sk_mk, sk_no ht]
    exact ext_mk t 0 t.size (Nat.zero_le _) (Nat.le_refl _)
  · rw [h1, h2, if_neg (by omega), if_neg (by omega), Int.toNat_natCast, Int.toNat_natCast]
    exact ext_mk t (n + 1) t.size (by omega) (Nat.le_refl _)
theorem alone_mk {b : ByteArray} (hb : Lib.hasPrefix b.data.toList [239, 187, 191] = false) {x : Tk} (hx : x.2.2 ≤ b.size) : aloneB (mkB ++ b) (tkSh 3 x) = aloneB b x := by
  show (Lib.hasPrefix x.2.1.data.toList [47, 47] && blankB (lineB ((mkB ++ b).extract 0 (3 + x.2.2)))) = _
  rw [ext_mk0 b _ hx, lineB_mk (no_mark_pre hb _)]
  rfl
def lbP (u v : Int) : Prop := ∀ p : Nat, ((3 + p : Nat) : Int) < u ↔ (p : Int) < v
theorem lbGo_mk (t : ByteArray) : ∀ e : Nat, e ≤ t.size → lbP (lbGo (mkB ++ t) (3 + e)) (lbGo t e) := by
  intro e
  induction e using Nat.strongRecOn with
  | _ e ih =>
    intro he
    have hx := ext_mk0 t e he
    have hz : (t.extract 0 e).size = e := by rw [ByteArray.size_extract]; omega
    rcases last_mk (t.extract 0 e) with ⟨h1, h2⟩ | ⟨n, hn, h1, h2⟩
    · rw [← hx] at h2
      rw [lbGo_neg h1, lbGo_neg h2]
      intro p
      split <;> split <;> omega
    · rw [← hx] at h2
      rw [lbGo_pos h1 (by omega), lbGo_pos h2 (by omega), Nat.add_assoc, ext_mk t (n + 1) e (by omega) he]
      split
      · intro p; omega
      · exact ih n (by omega) (by omega)
theorem lbR_mk (t : ByteArray) : lbP (lbR (mkB ++ t)) (lbR t) := by
  unfold lbR
  rcases last_mk t with ⟨h1, h2⟩ | ⟨n, hn, h1, h2⟩
  · rw [h1, h2, if_pos (by decide)]
    intro p; omega
  · rw [h1, h2, if_neg (by omega), if_neg (by omega), Int.toNat_natCast, Int.toNat_natCast]
    exact lbGo_mk t n (by omega)
theorem fm_congr {f g : Tk → Option ByteArray} : ∀ l : List Tk, (∀ x ∈ l, f x = g x) → l.filterMap f = l.filterMap g
  | [], _ => rfl
  | x :: l, h => by
    rw [List.filterMap_cons, List.filterMap_cons, h x List.mem_cons_self, fm_congr l (fun y hy => h y (List.mem_cons_of_mem _ hy))]
theorem elder_sh {u v : Int} (h : lbP u v) (M : List Tk) : elderR (M.map (tkSh 3)) u = elderR M v := by
  unfold elderR
  congr 1
  rw [List.filterMap_map]
  apply fm_congr
  intro x _
  show plusL u (tkSh 3 x) = plusL v x
  unfold plusL
  have : ((tkSh 3 x).2.2 : Int) < u ↔ (x.2.2 : Int) < v := h x.2.2
  show (if (plusD x.2.1).2 = true ∧ ((tkSh 3 x).2.2 : Int) < u then _ else _) = _
  by_cases h2 : (plusD x.2.1).2 = true ∧ (x.2.2 : Int) < v
  · rw [if_pos h2, if_pos ⟨h2.1, this.2 h2.2⟩]; rfl
  · rw [if_neg h2, if_neg (fun k => h2 ⟨k.1, this.1 k.2⟩)]
theorem conGo_sh (d : Nat) : ∀ (M : List Tk) (b : ByteArray), conGo (M.map (tkSh d)) b = ((conGo M b).1.map (d + ·), (conGo M b).2)
  | [], b => rfl
  | x :: M, b => by
    rw [List.map_cons]
    unfold conGo
    show (if (buildD x.2.1).2 = false then conGo (M.map (tkSh d)) b else if b ≠ ⟨#[]⟩ then (some (d + x.2.2), ⟨#[]⟩) else conGo (M.map (tkSh d)) (if (buildD x.2.1).1 = ⟨#[]⟩ then ⟨#[32]⟩ else (buildD x.2.1).1)) = _
    rw [conGo_sh d M, conGo_sh d M]
    split
    · rfl
    · split
      · rfl
      · rfl
theorem conR_mk {b : ByteArray} (M : List Tk) {first : Nat} (hf : first ≤ b.size) : conR (mkB ++ b) (M.map (tkSh 3)) (3 + first) = ((conR b M first).1, if (conR b M first).2 < 0 then -1 else 3 + (conR b M first).2) := by
  have h := conGo_sh 3 M ⟨#[]⟩
  cases hc : conGo M ⟨#[]⟩ with
  | mk o bd =>
    rw [hc] at h
    cases o with
    | some p =>
      rw [conR_two hc, conR_two h]
      show (_, ((3 + p : Nat) : Int)) = (_, if (p : Int) < 0 then _ else 3 + (p : Int))
      rw [if_neg (by omega)]
      congr 1
    | none =>
      rw [conR_one hc, conR_one h]
      split
      · rw [ext_mk0 b _ hf, elder_sh (lbR_mk _)]; rfl
      · rfl
theorem embGo_sh (d : Nat) : ∀ (M : List Tk) (E : List ByteArray), embGo (M.map (tkSh d)) E = ((embGo M E).1.map (d + ·), (embGo M E).2)
  | [], E => rfl
  | x :: M, E => by
    rw [List.map_cons]
    by_cases h : (embD x.2.1).2 = false
    · rw [embGo_no h, embGo_no (x := tkSh d x) h]
      exact embGo_sh d M E
    rw [Bool.not_eq_false] at h
    cases hp : patsGo (embD x.2.1).1 [] with
    | none => rw [embGo_none h hp, embGo_none (x := tkSh d x) h hp]; rfl
    | some L =>
      by_cases hl : 0 < L.length
      · rw [embGo_some h hp hl, embGo_some (x := tkSh d x) h hp hl]
        exact embGo_sh d M _
      · rw [embGo_zero h hp hl, embGo_zero (x := tkSh d x) h hp hl]; rfl
theorem inB_sh (fr up : Int) (x : Tk) : inB (3 + fr) (3 + up) (tkSh 3 x) = inB fr up x := by
  unfold inB
  show (decide (3 + fr < ((3 + x.2.2 : Nat) : Int)) && decide (((3 + x.2.2 : Nat) : Int) < 3 + up)) = _
  congr 1 <;> exact decide_eq_decide.2 (by omega)
theorem inB_sh0 (up : Int) (x : Tk) : inB (-1) (3 + up) (tkSh 3 x) = inB (-1) up x := by
  unfold inB
  show (decide (-1 < ((3 + x.2.2 : Nat) : Int)) && decide (((3 + x.2.2 : Nat) : Int) < 3 + up)) = _
  congr 1 <;> exact decide_eq_decide.2 (by omega)
theorem notes_mk {b : ByteArray} (hb : Lib.hasPrefix b.data.toList [239, 187, 191] = false) (P : PreS b) : notesR (mkB ++ b) = (notesR b).map (tkSh 3) := by
  unfold notesR
  rw [(mark_lex hb).2, List.filter_map]
  refine congrArg (List.map (tkSh 3)) ?_
  apply List.filter_congr
  intro x hx
  rw [Function.comp_apply]
  exact alone_mk hb (P.mp x hx).1
def hdrSh (h : Hdr) : Hdr := ⟨h.name, h.imp.map (imSh 3), h.build, h.emb, h.fault, if h.fault = 0 then h.at_ else 3 + h.at_⟩
theorem wrong_sh {f : Nat} (a : Nat) (h : f ≠ 0) : Hdr.wrong f (3 + a) = hdrSh (Hdr.wrong f a) := by
  unfold hdrSh
  show _ = (⟨_, _, _, _, f, if f = 0 then a else 3 + a⟩ : Hdr)
  rw [if_neg h]
  rfl
/-- A mark ahead of a text that has none: the same header, its places three further on. -/
theorem parse_mk {b : ByteArray} (hb : Lib.hasPrefix b.data.toList [239, 187, 191] = false) (P : PreS b) : parseR (mkB ++ b) = hdrSh (parseR b) := by
  have hL := (mark_lex hb).1
  have hB : beginR (lexL (mkB ++ b)) = ((beginR (lexL b)).1, (beginR (lexL b)).2.1, (beginR (lexL b)).2.2.map (imSh 3)) := by rw [hL]; exact beginR_sh
  have hbo := beginR_ok P.e
  have hend : tk (lexL (mkB ++ b)) (beginR (lexL b)).2.1 = tkSh 3 (tk (lexL b) (beginR (lexL b)).2.1) := by rw [hL]; exact tk_sh hbo.1
  by_cases hf : (beginR (lexL b)).1 = 0
  case neg =>
    rw [parse_wrong hf, parse_wrong (s := mkB ++ b) (by rw [hB]; exact hf), hB]
    show Hdr.wrong (beginR (lexL b)).1 (tk (lexL (mkB ++ b)) (beginR (lexL b)).2.1).2.2 = _
    rw [hend]
    exact wrong_sh _ hf
  have h3 := hbo.2 hf
  have hf' : (beginR (lexL (mkB ++ b))).1 = 0 := by rw [hB]; exact hf
  have t0 : tk (lexL (mkB ++ b)) 0 = tkSh 3 (tk (lexL b) 0) := by rw [hL]; exact tk_sh (by omega)
  have t1 : tk (lexL (mkB ++ b)) 1 = tkSh 3 (tk (lexL b) 1) := by rw [hL]; exact tk_sh (by omega)
  have t2 : tk (lexL (mkB ++ b)) 2 = tkSh 3 (tk (lexL b) 2) := by rw [hL]; exact tk_sh (by omega)
  have hfr : frontR (mkB ++ b) = (frontR b).map (tkSh 3) := by
    unfold frontR
    rw [notes_mk hb P, List.filter_map, t0]
    refine congrArg (List.map (tkSh 3)) ?_
    apply List.filter_congr
    intro x _
    have := inB_sh0 ((tk (lexL b) 0).2.2 : Nat) x
    show inB (-1) ((3 + (tk (lexL b) 0).2.2 : Nat) : Int) (tkSh 3 x) = _
    rw [← this]
    congr 1
  have hba : backR (mkB ++ b) = (backR b).map (tkSh 3) := by
    unfold backR
    rw [notes_mk hb P, List.filter_map, t2, hB]
    show List.map _ (List.filter (inB _ ((tk (lexL (mkB ++ b)) (beginR (lexL b)).2.1).2.2 : Nat) ∘ _) _) = _
    rw [hend]
    refine congrArg (List.map (tkSh 3)) ?_
    apply List.filter_congr
    intro x _
    have := inB_sh ((tk (lexL b) 2).2.2 : Nat) ((tk (lexL b) (beginR (lexL b)).2.1).2.2 : Nat) x
    show inB ((3 + (tk (lexL b) 2).2.2 : Nat) : Int) ((3 + (tk (lexL b) (beginR (lexL b)).2.1).2.2 : Nat) : Int) (tkSh 3 x) = _
    rw [← this]
    congr 1
  have hfle : (tk (lexL b) 0).2.2 ≤ b.size := P.tp _ (List.mem_of_getElem? (tk_some P.e.pos))
  have hcn : conR (mkB ++ b) (frontR (mkB ++ b)) (tk (lexL (mkB ++ b)) 0).2.2 = ((conR b (frontR b) (tk (lexL b) 0).2.2).1, if (conR b (frontR b) (tk (lexL b) 0).2.2).2 < 0 then -1 else 3 + (conR b (frontR b) (tk (lexL b) 0).2.2).2) := by
    rw [hfr, t0]
    exact conR_mk (frontR b) hfle
  rcases conR_at b (frontR b) (tk (lexL b) 0).2.2 with hc | ⟨p, hc⟩
  case inr =>
    rw [hc, if_neg (by omega)] at hcn
    rw [parse_build hf hc, parse_build (s := mkB ++ b) hf' (p := 3 + p) (by rw [hcn]; rfl)]
    exact wrong_sh _ (by decide)
  rw [hc, if_pos (by decide)] at hcn
  have hem : embGo (backR (mkB ++ b)) [] = ((embGo (backR b) []).1.map (3 + ·), (embGo (backR b) []).2) := by rw [hba]; exact embGo_sh 3 _ _
  cases he : embGo (backR b) [] with
  | mk o E =>
    rw [he] at hem
    cases o with
    | some p =>
      rw [parse_emb hf hc he, parse_emb (s := mkB ++ b) hf' (by rw [hcn]) hem]
      exact wrong_sh _ (by decide)
    | none =>
      rw [parse_ok hf hc he, parse_ok (s := mkB ++ b) hf' (by rw [hcn]) hem, t1, hB, hcn]
      rfl
end Go.Proofs.YtejogobhnbjpdaaDoor
namespace Go.Proofs.YtejogobhnbjpdaaDoor
set_option linter.unusedVariables false
set_option linter.unusedSimpArgs false
open Go.ChangeShapes Go.WideShapes Go.ChangeAt Go.RowKit

abbrev cOne : ByteArray := ⟨#[112, 97, 99, 107, 97, 103, 101, 32, 97, 59, 32, 105, 109, 112, 111, 114, 116, 32, 34, 120, 34]⟩
theorem parse_one : (parseR cOne).name = ⟨#[97]⟩ ∧ (parseR cOne).imp = [(⟨#[]⟩, ⟨#[120]⟩, 18)] ∧ (parseR cOne).build = ⟨#[]⟩ ∧ (parseR cOne).emb = [] ∧ (parseR cOne).fault = 0 ∧ (parseR cOne).at_ = 0 := by decide +kernel
theorem parse_x : (parseR ⟨#[120]⟩).fault = 2 := by decide +kernel
/-- Parse, of a text of at most 1048576 bytes. -/
theorem parse_ent (s : ByteArray) (w : World) (hs : s.size ≤ 1048576) (hTab : Tabs w) :
    Calls Tryd.prog 24 #[.string s] w fun e w' => ∃ v, e = .returned v ∧ HNew w.heap.size w' v (parseR s) ∧ Below w.heap.size w w' :=
  parse_new anyC idxC s w (pre_of s hs) hs hTab
theorem parse_at (s : ByteArray) (w : World) (hs : s.size ≤ 1048576) (hTab : Tabs w) :
    Calls Tryd.prog 24 #[.string s] w fun e w' => ∃ v, e = .returned v ∧ HAt w' v (parseR s) ∧ Below w.heap.size w w' :=
  parse_any anyC idxC s w (pre_of s hs) hs hTab
theorem fld41 (a b c d e f : Value) (w : World) : (Instr.field 41 (.agg #[a, b, c, d, e, f]) 4).run Tryd.prog w = .ok e w := by kernel_rfl
set_option maxRecDepth 100000 in
set_option maxHeartbeats 4000000 in
theorem alive12_any (w : World) (hTab : Tabs w) : Calls Tryd.prog 22 #[] w fun e w' => e = .returned (.bool true) ∧ Below w.heap.size w w' := by
  have HX := Lib.hid (parse_at cOne w (by decide) hTab)
  have HY := Lib.hid (fun w1 (h : Below w.heap.size w w1) => parse_at ⟨#[120]⟩ w1 (by decide) (tabs_below hTab h))
  clear hTab
  go_enter Tryd.func22, Tryd.ntmps22
  go_wp2_with fail
  refine HX.out.mono ?_
  rintro r w1 ⟨v, rfl, ⟨iv, ev, rfl, hi, he⟩, hB⟩
  have HB := Lib.hid hB
  obtain ⟨e1, e2, e3, e4, e5, e6⟩ := parse_one
  rw [e1, e3, e5, e6]
  rw [e2] at hi
  rw [e4] at he
  obtain ⟨pe, ce, rfl, _⟩ := lat_shape he
  clear he hB e1 e2 e3 e4 e5 e6
  obtain ⟨p, cap, rfl, hp⟩ := lat_shape hi
  obtain ⟨g, off, rfl⟩ := hp (by decide)
  obtain ⟨hgl, c0, c1, c2⟩ := im_cell hi (i := 0) rfl
  have Hi := Lib.hid hi
  clear hi hp
  go_wp2_with fail
  have HBa := Lib.hid (fun o : Obj => HB.out.trans (((Below.refl _ w1).alloc (Nat.le_refl _) o).mono HB.out.size))
  refine (HY.out _ (HBa.out _)).mono ?_
  rintro r w2 ⟨v2, rfl, ⟨iv2, ev2, rfl, _, _⟩, hB2⟩
  have HB2 := Lib.hid ((HBa.out _).trans (hB2.mono (HBa.out _).size))
  rw [parse_x]
  generalize (parseR ⟨#[120]⟩).name = z1 at *
  generalize (parseR ⟨#[120]⟩).build = z2 at *
  generalize (parseR ⟨#[120]⟩).at_ = z3 at *
  have hfl := fld41 (.string z1) iv2 (.string z2) ev2 (.int .i64 2) (.int .i64 (z3 : Nat))
  clear hB2
  go_wp2_with fail
  go_ret
  exact ⟨rfl, HB2.out⟩
/-! ### HeaderMarks -/
theorem pre_of_ext {s : ByteArray} (h : 3 ≤ s.size) : (s.extract 0 3 = mkB) ↔ Lib.hasPrefix s.data.toList [239, 187, 191] = true := by
  have := pre_ext (s := s) (q := 0) (Nat.zero_le _) [239, 187, 191]
  unfold pre at this
  rw [List.drop_zero] at this
  rw [this]
  constructor
  · intro e
    refine ⟨by simpa using h, ?_⟩
    show (s.extract 0 (0 + 3)).data.toList = _
    rw [Nat.zero_add, e]
  · intro e
    have e2 : (s.extract 0 (0 + 3)).data.toList = [239, 187, 191] := e.2
    rw [Nat.zero_add] at e2
    exact ba_ext e2
theorem pre_short {s : ByteArray} (h : ¬ 3 ≤ s.size) : Lib.hasPrefix s.data.toList [239, 187, 191] = false := by
  rw [Bool.eq_false_iff]
  intro e
  have := (pre_ext (s := s) (q := 0) (Nat.zero_le _) [239, 187, 191]).1 (by unfold pre; rw [List.drop_zero]; exact e)
  apply h
  simpa using this.1
end Go.Proofs.YtejogobhnbjpdaaDoor
namespace Go.Proofs.YtejogobhnbjpdaaDoor
set_option linter.unusedVariables false
set_option linter.unusedSimpArgs false
open Go.ChangeShapes Go.WideShapes Go.ChangeAt Go.RowKit

def ImC (t : Im) : Prop := t.1.size ≤ 4194304 ∧ t.2.1.size ≤ 4194304 ∧ t.2.2 ≤ 4194304
theorem ImC.b {t : Im} (h : ImC t) : ImB t := ⟨h.1, h.2.1, Nat.le_trans h.2.2 (by decide)⟩
theorem tk_tkb {T : List Tk} (h : ∀ t ∈ T, TkB t) (i : Nat) : TkB (tk T i) := by
  by_cases hi : i < T.length
  · exact h _ (List.mem_of_getElem? (tk_some hi))
  · rw [tk_out hi]; exact tkb0 (by decide) (Nat.zero_le _)
theorem specR_imb {T : List Tk} (h : ∀ t ∈ T, TkB t) {i : Nat} {m : Im} (hs : (specR T i).1 = some m) : ImC m := by
  unfold specR at hs
  split at hs
  · injection hs with hs
    subst hs
    refine ⟨?_, Nat.le_trans (ext_size _ _ _) (tk_tkb h _).2.1, (tk_tkb h i).2.2⟩
    show (if named (tk T i) = true then (tk T i).2.1 else (⟨#[]⟩ : ByteArray)).size ≤ _
    split
    · exact (tk_tkb h i).2.1
    · exact Nat.zero_le _
  · cases hs
theorem snoc_imb {I : List Im} (h : ∀ t ∈ I, ImC t) {m : Im} (hm : ImC m) : ∀ t ∈ I ++ [m], ImC t := fun u hu => by
  rcases List.mem_append.1 hu with h1 | h1
  · exact h u h1
  · rw [List.mem_singleton.1 h1]; exact hm
theorem specsR_imb {T : List Tk} (h : ∀ t ∈ T, TkB t) : ∀ (n i : Nat) (I : List Im), T.length - i ≤ n → (∀ t ∈ I, ImC t) → ∀ t ∈ (specsR T i I).2.2, ImC t := by
  intro n
  induction n using Nat.strongRecOn with
  | _ n ih =>
    intro i I hn hI
    by_cases hi : i < T.length
    case neg => rw [specsR_out _ hi]; exact hI
    by_cases hc : tIs 5 ⟨#[41]⟩ (tk T i) = true
    · rw [specsR_close _ hi hc]; exact hI
    rw [Bool.not_eq_true] at hc
    cases hs : (specR T i).1 with
    | none => rw [specsR_none _ hi hc hs]; exact hI
    | some m =>
      have hp := specR_pos hs
      have hI2 := snoc_imb hI (specR_imb h hs)
      rw [specsR_some _ hi hc hs]
      split
      · exact ih (T.length - ((specR T i).2 + 1)) (by omega) _ _ (Nat.le_refl _) hI2
      · split
        · exact ih (T.length - (specR T i).2) (by omega) _ _ (Nat.le_refl _) hI2
        · exact hI2
theorem specs1_imb {T : List Tk} (h : ∀ t ∈ T, TkB t) (i : Nat) (I : List Im) (hI : ∀ t ∈ I, ImC t) : ∀ t ∈ (specs1 T i I).2.2, ImC t := by
  unfold specs1
  split
  · exact specsR_imb h _ _ _ (Nat.le_refl _) hI
  · cases hs : (specR T i).1 with
    | none => simpa using hI
    | some m => exact snoc_imb hI (specR_imb h hs)
theorem declR_imb {T : List Tk} (h : ∀ t ∈ T, TkB t) : ∀ (n i : Nat) (I : List Im), T.length - i ≤ n → (∀ t ∈ I, ImC t) → ∀ t ∈ (declR T i I).2.2, ImC t := by
  intro n
  induction n using Nat.strongRecOn with
  | _ n ih =>
    intro i I hn hI
    by_cases hi : i < T.length
    case neg => rw [declR_out _ hi]; exact hI
    by_cases hc : tIs 1 wImport (tk T i) = true
    case neg =>
      rw [Bool.not_eq_true] at hc
      rw [declR_end _ hi hc]; exact hI
    have h2 := specs1_imb h (i + 1) I hI
    by_cases hg : i < (specs1 T (i + 1) I).2.1
    case neg => rw [declR_back _ hi hc hg]; exact hI
    by_cases h1 : (specs1 T (i + 1) I).1 = true
    case neg =>
      rw [Bool.not_eq_true] at h1
      rw [declR_bad _ hi hc hg h1]; exact h2
    rw [declR_on _ hi hc hg h1]
    split
    · exact ih (T.length - ((specs1 T (i + 1) I).2.1 + 1)) (by omega) _ _ (Nat.le_refl _) h2
    · exact h2
theorem beginR_imb {T : List Tk} (h : ∀ t ∈ T, TkB t) : ∀ t ∈ (beginR T).2.2, ImC t := by
  have hd := declR_imb h _ 3 [] (Nat.le_refl _) (fun t ht => by cases ht)
  unfold beginR
  split
  · intro t ht; cases ht
  · split <;> exact hd
theorem conGo_at : ∀ (M : List Tk) (b : ByteArray) (p : Nat), (conGo M b).1 = some p → ∃ x ∈ M, x.2.2 = p ∧ (buildD x.2.1).2 = true
  | [], b, p, h => by cases h
  | x :: M, b, p, h => by
    unfold conGo at h
    split at h
    · obtain ⟨y, hy, h2⟩ := conGo_at M b p h
      exact ⟨y, List.mem_cons_of_mem _ hy, h2⟩
    · rename_i hb
      split at h
      · injection h with h
        exact ⟨x, List.mem_cons_self, h, by simpa using hb⟩
      · obtain ⟨y, hy, h2⟩ := conGo_at M _ p h
        exact ⟨y, List.mem_cons_of_mem _ hy, h2⟩
theorem conR_place {s : ByteArray} {M : List Tk} {first p : Nat} (h : (conR s M first).2 = p) : ∃ x ∈ M, x.2.2 = p := by
  unfold conR at h
  cases hc : conGo M ⟨#[]⟩ with
  | mk o b =>
    rw [hc] at h
    cases o with
    | some q =>
      have h : (q : Int) = p := h
      obtain ⟨x, hx, h2, _⟩ := conGo_at M ⟨#[]⟩ q (by rw [hc])
      exact ⟨x, hx, by omega⟩
    | none =>
      exfalso
      have h : (if b = ⟨#[]⟩ then (elderR M (lbR (s.extract 0 first)), (-1 : Int)) else (b, -1)).2 = p := h
      split at h
      · have h : (-1 : Int) = p := h
        omega
      · have h : (-1 : Int) = p := h
        omega
theorem embGo_at : ∀ (M : List Tk) (E : List ByteArray) (p : Nat), (embGo M E).1 = some p → ∃ x ∈ M, x.2.2 = p
  | [], E, p, h => by cases h
  | x :: M, E, p, h => by
    by_cases hb : (embD x.2.1).2 = false
    · rw [embGo_no hb] at h
      obtain ⟨y, hy, h2⟩ := embGo_at M E p h
      exact ⟨y, List.mem_cons_of_mem _ hy, h2⟩
    rw [Bool.not_eq_false] at hb
    cases hp : patsGo (embD x.2.1).1 [] with
    | none =>
      rw [embGo_none hb hp] at h
      injection h with h
      exact ⟨x, List.mem_cons_self, h⟩
    | some L =>
      by_cases hl : 0 < L.length
      · rw [embGo_some hb hp hl] at h
        obtain ⟨y, hy, h2⟩ := embGo_at M _ p h
        exact ⟨y, List.mem_cons_of_mem _ hy, h2⟩
      · rw [embGo_zero hb hp hl] at h
        injection h with h
        exact ⟨x, List.mem_cons_self, h⟩
/-- A header's fault is told at a token, or at a comment; what it holds is small. -/
inductive HdrAt (s : ByteArray) : Hdr → Prop
  | wrong (f : Nat) (hf : f = 1 ∨ f = 2 ∨ f = 3) (x : Tk) (hx : x ∈ lexL s) : HdrAt s (.wrong f x.2.2)
  | note (f : Nat) (hf : f = 4 ∨ f = 5) (x : Tk) (hx : x ∈ lexM s) : HdrAt s (.wrong f x.2.2)
  | ok (nm bd : ByteArray) (I : List Im) (E : List ByteArray) (hI : I = (beginR (lexL s)).2.2) (hn : nm = (tk (lexL s) 1).2.1) (h0 : (beginR (lexL s)).1 = 0) : HdrAt s ⟨nm, I, bd, E, 0, 0⟩
theorem beginR_f (T : List Tk) : (beginR T).1 ≤ 3 := by
  unfold beginR
  split
  · show (if _ then 1 else 2) ≤ 3; split <;> decide
  · split
    · show (if _ then 1 else 3) ≤ 3; split <;> decide
    · show (if _ then 1 else 0) ≤ 3; split <;> decide
theorem parse_place (s : ByteArray) (hs : s.size ≤ 1048576) : HdrAt s (parseR s) := by
  have P := pre_of s hs
  have hb := beginR_ok P.e
  have h3 := beginR_f (lexL s)
  by_cases hf : (beginR (lexL s)).1 = 0
  case neg =>
    rw [parse_wrong hf]
    exact .wrong _ (by omega) _ (List.mem_of_getElem? (tk_some hb.1))
  have hsub : ∀ {p : Tk → Bool} {x : Tk}, x ∈ (notesR s).filter p → x ∈ lexM s := fun hx => (List.mem_filter.1 (List.mem_filter.1 hx).1).1
  rcases conR_at s (frontR s) (tk (lexL s) 0).2.2 with hc | ⟨p, hc⟩
  case inr =>
    rw [parse_build hf hc]
    obtain ⟨x, hx, rfl⟩ := conR_place hc
    exact .note 4 (.inl rfl) x (hsub hx)
  cases he : embGo (backR s) [] with
  | mk o E =>
    cases o with
    | some p =>
      rw [parse_emb hf hc he]
      obtain ⟨x, hx, rfl⟩ := embGo_at (backR s) [] p (by rw [he])
      exact .note 5 (.inr rfl) x (hsub hx)
    | none =>
      rw [parse_ok hf hc he]
      exact .ok _ _ _ _ rfl rfl hf
/-- What a text's header holds is small. -/
structure HdrB (h : Hdr) : Prop where
  im : ∀ t ∈ h.imp, ImC t
  il : h.imp.length ≤ 4194304
  at_ : h.at_ ≤ 4194304
theorem parse_b (s : ByteArray) (hs : s.size ≤ 1048576) : HdrB (parseR s) := by
  have P := pre_of s hs
  have hb := beginR_ok P.e
  have hw : ∀ f a : Nat, a ≤ 4194304 → HdrB (.wrong f a) := fun f a h => ⟨fun t ht => (by cases ht), Nat.zero_le _, h⟩
  have hp := parse_place s hs
  generalize parseR s = h at *
  cases hp with
  | wrong f hf x hx => exact hw _ _ (by have := P.tp x hx; omega)
  | note f hf x hx => exact hw _ _ (by have := (P.mp x hx).1; omega)
  | ok nm bd I E hI hn h0 =>
    subst hI
    refine ⟨beginR_imb (lexL_tkb hs), ?_, Nat.zero_le _⟩
    have hd := declR_ok P.e ((lexL s).length - 3) 3 [] (by have := hb.2 h0; omega) (by have := hb.2 h0; omega) (Nat.zero_le _)
    have hl := P.tl
    show (beginR (lexL s)).2.2.length ≤ _
    unfold beginR
    split
    · exact Nat.zero_le _
    · split <;> (show (declR (lexL s) 3 []).2.2.length ≤ _; omega)
end Go.Proofs.YtejogobhnbjpdaaDoor
