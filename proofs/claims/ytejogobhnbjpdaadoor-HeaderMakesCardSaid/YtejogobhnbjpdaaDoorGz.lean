/- The theory of tokens: what the statement GolexParts says. -/
import Derived.Test.YtejogobhnbjpdaaDoorGy
namespace Go.Proofs.YtejogobhnbjpdaaDoor
set_option linter.unusedVariables false
set_option linter.unusedSimpArgs false

/-- The first part: a text that ends with a line feed, with something behind it. -/
theorem parts_first {s S : ByteArray} (hle : s.size ≤ S.size) (hag : ∀ j, j < s.size → byt s j = byt S j) (hsz : 0 < s.size) (hlf : byt s (s.size - 1) = 10) :
    ∀ q l m, q ≤ s.size → (q = s.size → nfL l) → (∀ t, (lexT s q l m).1.getLast? = some t → t.1 = 0) → ∃ T m2, (lexT s q l m).1 = T ++ [(0, ⟨#[]⟩, s.size)] ∧ lexT S q l m = lexT S s.size T m2 ∧ nfL T := by
  refine lex_ind s _ ?_ ?_ ?_
  · intro q l m h hq hn hk
    obtain rfl : q = s.size := by omega
    refine ⟨l, m, ?_, rfl, hn rfl⟩
    rw [lexT_out h, feed_nf (hn rfl)]
  · intro q l m f h ht hq hn hk
    rw [lexT_bad h ht] at hk
    have := hk (7, ⟨#[]⟩, f) (by show (l ++ [_]).getLast? = _; rw [List.getLast?_concat])
    exact absurd (show (7 : Nat) = 0 from this) (by decide)
  · intro q l m h hok ih hq hn hk
    obtain ⟨he1, he2, he3⟩ := (thing_ends h).2 hok
    have hst := lexT_step h hok l m
    rw [hst] at hk ⊢
    have ha : Ag s S q q ((thing s q).en q - q) := ⟨by omega, by omega, fun j hj => hag _ (by omega)⟩
    have e0 : q + ((thing s q).en q - q) = (thing s q).en q := by omega
    have hen : (thing s q).en q = s.size → thing s q = .lf := fun h1 => end_lf h hok (by rw [h1]; exact hlf)
    have hth : thing S q = (thing s q).sh q q := by
      refine thing_loc h hok ha (.inl rfl) ?_ ?_
      · by_cases h1 : thing s q = .lf
        · exact .inl h1
        · have h2 : (thing s q).en q < s.size := by
            rcases Nat.lt_or_ge ((thing s q).en q) s.size with h3 | h3
            · exact h3
            · exact absurd (hen (by omega)) h1
          right; right; right
          rw [e0]
          have h5 : (thing s ((thing s q).en q)).ok = true := by
            rcases th_cases s ((thing s q).en q) with ⟨f, hf⟩ | h5
            · rw [lexT_bad h2 hf] at hk
              have := hk (7, ⟨#[]⟩, f) (by show (_ ++ [_]).getLast? = _; rw [List.getLast?_concat])
              exact absurd (show (7 : Nat) = 0 from this) (by decide)
            · exact h5
          have hr := runeAt_range s _ h2
          have hrn := rune_loc (s := s) (s' := S) (q := (thing s q).en q) (q' := (thing s q).en q) h2 (ok_pos h2 h5) ⟨by omega, by omega, fun j hj => hag _ (by omega)⟩ (.inl rfl)
          exact ⟨h2, by omega, (hag _ (by omega)).symm, by rw [rn_in (show (thing s q).en q < S.size by omega), rn_in h2, hrn]⟩
      · rintro h9 h10 ⟨h11, h12, h13⟩
        have h2 : q + 1 < s.size := by
          rcases Nat.lt_or_ge (q + 1) s.size with h3 | h3
          · exact h3
          · have h4 : q = s.size - 1 := by omega
            rw [h4, hlf] at h10; omega
        rw [← hag _ h2] at h12
        have h3 : q + 2 < s.size := by
          rcases Nat.lt_or_ge (q + 2) s.size with h3 | h3
          · exact h3
          · have h4 : q + 1 = s.size - 1 := by omega
            rw [h4, hlf] at h12; omega
        rw [← hag _ h3] at h13
        obtain ⟨hs1, _⟩ := dot_one h2 h10 h12 h9
        have := three_dots h3 h10 h12 h13
        omega
    rw [sh_id h] at hth
    have hok' : (thing S q).ok = true := by rw [hth]; exact hok
    have hst' := lexT_step (s := S) (q := q) (by omega) hok' l m
    have hna := next_ag h hok ha l m
    rw [hst', hth, hna.1, hna.2]
    exact ih he2 (fun h1 => by rw [hen h1]; exact nf_feed l q) hk

/-- The second part: the same bytes, up to the end, somewhere behind. -/
def Tl (b S : ByteArray) (d : Nat) : Prop := S.size = d + b.size ∧ ∀ i, S.get! (d + i) = b.get! i
section
variable {b S : ByteArray} {d : Nat}
theorem Tl.byt (h : Tl b S d) (i : Nat) : byt S (d + i) = Go.Proofs.YtejogobhnbjpdaaDoor.byt b i := congrArg UInt8.toNat (h.2 i)
theorem Tl.rune (h : Tl b S d) (q : Nat) (hm : 0 < q ∨ d = 0 ∨ (runeAt b 0).1 ≠ 65279) : runeAt S (d + q) = runeAt b q := by
  have hd : dec S (d + q) = dec b q := by
    unfold dec
    rw [h.1, show d + b.size - (d + q) = b.size - q by omega, h.2, show d + q + 1 = d + (q + 1) by omega, show d + q + 2 = d + (q + 2) by omega, show d + q + 3 = d + (q + 3) by omega, h.2, h.2, h.2]
  unfold runeAt
  rw [hd]
  unfold runeV
  by_cases h1 : (dec b q).1 = 0 ∨ ((dec b q).1 = 65533 ∧ (dec b q).2 = 1)
  · rw [if_pos h1, if_pos h1]
  · rw [if_neg h1, if_neg h1]
    by_cases h2 : (dec b q).1 = 65279
    · rcases hm with h3 | h3 | h3
      · rw [if_pos ⟨h2, by omega⟩, if_pos ⟨h2, h3⟩]
      · subst h3; rw [Nat.zero_add]
      · rcases Nat.eq_zero_or_pos q with h4 | h4
        · subst h4
          exfalso; apply h3
          unfold runeAt runeV
          rw [if_neg h1, if_neg (by omega)]
          show (((dec b 0).1 : Nat) : Int) = 65279
          rw [h2]; rfl
        · rw [if_pos ⟨h2, by omega⟩, if_pos ⟨h2, h4⟩]
    · rw [if_neg (fun x => h2 x.1), if_neg (fun x => h2 x.1)]
def Mk (b : ByteArray) (d q : Nat) : Prop := 0 < q ∨ d = 0 ∨ (runeAt b 0).1 ≠ 65279
theorem Mk.add {q : Nat} (h : Mk b d q) (n : Nat) : Mk b d (q + n) := by
  rcases h with h | h | h
  · exact .inl (by omega)
  · exact .inr (.inl h)
  · exact .inr (.inr h)
theorem Tl.lt (h : Tl b S d) (q : Nat) : d + q < S.size ↔ q < b.size := by rw [h.1]; omega
theorem Tl.rn (h : Tl b S d) {q : Nat} (hm : Mk b d q) : rn S (d + q) = Go.Proofs.YtejogobhnbjpdaaDoor.rn b q := by
  by_cases hq : q < b.size
  · rw [rn_in hq, rn_in ((h.lt q).2 hq), h.rune q hm]
  · rw [rn_out hq, rn_out (fun x => hq ((h.lt q).1 x))]
theorem Tl.ident (h : Tl b S d) : ∀ (n q : Nat), b.size - q ≤ n → Mk b d q → identE S (d + q) = d + identE b q := by
  intro n
  induction n with
  | zero => intro q hn hm; rw [identE.eq_def S (d + q), identE.eq_def b q, dif_neg (by rw [h.lt]; omega), dif_neg (by omega)]
  | succ n ih =>
    intro q hn hm
    by_cases hq : q < b.size
    · have hr := runeAt_range b q hq
      rw [identE.eq_def S (d + q), identE.eq_def b q, dif_pos ((h.lt q).2 hq), dif_pos hq, h.rune q hm]
      split
      · rw [Nat.add_assoc]; exact ih _ (by omega) (hm.add _)
      · rfl
    · rw [identE.eq_def S (d + q), identE.eq_def b q, dif_neg (by rw [h.lt]; omega), dif_neg (by omega)]
theorem Tl.num (h : Tl b S d) (hex : Bool) : ∀ (n q : Nat), b.size - q ≤ n → 0 < q → numE S hex (d + q) = d + numE b hex q := by
  intro n
  induction n with
  | zero => intro q hn h0; rw [numE.eq_def S hex (d + q), numE.eq_def b hex q, if_neg (by rw [h.lt]; omega), if_neg (by omega)]
  | succ n ih =>
    intro q hn h0
    by_cases hq : q < b.size
    · rw [numE.eq_def S hex (d + q), numE.eq_def b hex q, if_pos ((h.lt q).2 hq), if_pos hq, h.byt q, show d + q - 1 = d + (q - 1) by omega, h.byt (q - 1)]
      split
      · rw [Nat.add_assoc]; exact ih _ (by omega) (by omega)
      · rfl
    · rw [numE.eq_def S hex (d + q), numE.eq_def b hex q, if_neg (by rw [h.lt]; omega), if_neg (by omega)]
def rsSh (d : Nat) : Rs → Rs | .inl f => .inl (d + f) | .inr e => .inr (d + e)
theorem Tl.line (h : Tl b S d) : ∀ (n q : Nat), b.size - q ≤ n → Mk b d q → lineR S (d + q) = rsSh d (lineR b q) := by
  intro n
  induction n with
  | zero => intro q hn hm; rw [lineR.eq_def S (d + q), lineR.eq_def b q, dif_neg (by rw [h.lt]; omega), dif_neg (by omega)]; rfl
  | succ n ih =>
    intro q hn hm
    by_cases hq : q < b.size
    · have hr := runeAt_range b q hq
      rw [lineR.eq_def S (d + q), lineR.eq_def b q, dif_pos ((h.lt q).2 hq), dif_pos hq, h.rune q hm]
      split
      · rfl
      · split
        · rfl
        · rw [Nat.add_assoc]; exact ih _ (by omega) (hm.add _)
    · rw [lineR.eq_def S (d + q), lineR.eq_def b q, dif_neg (by rw [h.lt]; omega), dif_neg (by omega)]; rfl
theorem Tl.pre (h : Tl b S d) (q : Nat) (x : List UInt8) (hq : q ≤ b.size) : pre S (d + q) x = Go.Proofs.YtejogobhnbjpdaaDoor.pre b q x := by
  rw [Bool.eq_iff_iff, pre_iff S _ x (by rw [h.1]; omega), pre_iff b q x hq, h.1]
  constructor
  · rintro ⟨h1, h2⟩; exact ⟨by omega, fun j hj => by rw [← h.byt, ← Nat.add_assoc]; exact h2 j hj⟩
  · rintro ⟨h1, h2⟩; exact ⟨by omega, fun j hj => by rw [Nat.add_assoc, h.byt]; exact h2 j hj⟩
theorem Tl.closed (h : Tl b S d) (last : List UInt8) (a : Nat) : ∀ (n q : Nat), b.size - q ≤ n → Mk b d q → closedR S last (d + a) (d + q) = rsSh d (closedR b last a q) := by
  intro n
  induction n with
  | zero => intro q hn hm; rw [closedR.eq_def S last (d + a) (d + q), closedR.eq_def b last a q, dif_neg (by rw [h.lt]; omega), dif_neg (by omega)]; rfl
  | succ n ih =>
    intro q hn hm
    by_cases hq : q < b.size
    · have hr := runeAt_range b q hq
      rw [closedR.eq_def S last (d + a) (d + q), closedR.eq_def b last a q, dif_pos ((h.lt q).2 hq), dif_pos hq, h.rune q hm, h.pre q last (by omega)]
      split
      · rfl
      · split
        · rw [Nat.add_assoc]; rfl
        · rw [Nat.add_assoc]; exact ih _ (by omega) (hm.add _)
    · rw [closedR.eq_def S last (d + a) (d + q), closedR.eq_def b last a q, dif_neg (by rw [h.lt]; omega), dif_neg (by omega)]; rfl
theorem Tl.quot (h : Tl b S d) (qt a : Nat) : ∀ (n q : Nat) (bh : Bool), b.size - q ≤ n → Mk b d q → quotR S qt (d + a) (d + q) bh = rsSh d (quotR b qt a q bh) := by
  intro n
  induction n with
  | zero => intro q bh hn hm; rw [quotR.eq_def S qt (d + a) (d + q) bh, quotR.eq_def b qt a q bh, dif_neg (by rw [h.lt]; omega), dif_neg (by omega)]; rfl
  | succ n ih =>
    intro q bh hn hm
    by_cases hq : q < b.size
    · have hr := runeAt_range b q hq
      rw [quotR.eq_def S qt (d + a) (d + q) bh, quotR.eq_def b qt a q bh, dif_pos ((h.lt q).2 hq), dif_pos hq, h.rune q hm]
      split
      · rfl
      · split
        · rfl
        · split
          · by_cases h1 : qt = 39 ∧ q = a + 1
            · rw [if_pos h1, if_pos ⟨h1.1, by omega⟩]; rfl
            · rw [if_neg h1, if_neg (fun x => h1 ⟨x.1, by omega⟩), Nat.add_assoc]; rfl
          · rw [Nat.add_assoc]; exact ih _ _ (by omega) (hm.add _)
    · rw [quotR.eq_def S qt (d + a) (d + q) bh, quotR.eq_def b qt a q bh, dif_neg (by rw [h.lt]; omega), dif_neg (by omega)]; rfl
theorem Tl.ag (h : Tl b S d) {q n : Nat} (hn : q + n ≤ b.size) : Ag b S q (d + q) n := ⟨hn, by rw [h.1]; omega, fun j hj => by rw [Nat.add_assoc, h.byt]⟩
theorem Tl.sg (h : Tl b S d) (q k : Nat) : sgB S (d + q) k ↔ sgB b q k := by
  by_cases hk : 0 < k
  · by_cases hq : q + k ≤ b.size
    · exact sg_ag (h.ag hq)
    · unfold sgB; rw [h.1]; exact ⟨fun x => by omega, fun x => by omega⟩
  · obtain rfl : k = 0 := by omega
    unfold sgB
    have e1 : S.extract (d + q) (d + q + 0) = ⟨#[]⟩ := by apply ByteArray.ext; apply Array.ext'; rw [Lib.extract_data]; simp
    have e2 : b.extract q (q + 0) = ⟨#[]⟩ := by apply ByteArray.ext; apply Array.ext'; rw [Lib.extract_data]; simp
    rw [e1, e2]; simp
theorem Tl.sign (h : Tl b S d) (q : Nat) : signN S (d + q) = signN b q := by
  have h3 := h.sg q 3; have h2 := h.sg q 2; have h1 := h.sg q 1
  rcases signN_eq b q with ⟨a3, e⟩ | ⟨a3, a2, e⟩ | ⟨a3, a2, a1, e⟩ | ⟨a3, a2, a1, e⟩ <;> rcases signN_eq S (d + q) with ⟨b3, f⟩ | ⟨b3, b2, f⟩ | ⟨b3, b2, b1, f⟩ | ⟨b3, b2, b1, f⟩ <;> first | (rw [e, f]; done) | (exfalso; simp_all)
theorem Tl.hex (h : Tl b S d) (q : Nat) : hexP S (d + q) = hexP b q := by
  unfold hexP
  rw [h.byt, Nat.add_assoc d q 1, h.byt, h.1]
  congr 1
  exact decide_eq_decide.2 (by omega)
def Th.shd (d : Nat) : Th → Th | .bad f => .bad (d + f) | .lf => .lf | .blank => .blank | .note e => .note (d + e) | .tok k e => .tok k (d + e)
theorem ofN_sh (x : Rs) : Th.ofN (rsSh d x) = (Th.ofN x).shd d := by cases x <;> rfl
theorem of_sh (k : Nat) (x : Rs) : Th.of k (rsSh d x) = (Th.of k x).shd d := by cases x <;> rfl
theorem Tl.thing (h : Tl b S d) {q : Nat} (hq : q < b.size) (hm : Mk b d q) : thing S (d + q) = (Go.Proofs.YtejogobhnbjpdaaDoor.thing b q).shd d := by
  have ed : digTest S (d + q) (runeAt b q).1 = digTest b q (runeAt b q).1 := by unfold digTest; rw [Nat.add_assoc, h.rn (hm.add 1)]
  rw [thing_eq, thing_eq, h.rune q hm, h.pre q _ (by omega), h.pre q _ (by omega), h.line _ q (Nat.le_refl _) hm, Nat.add_assoc d q 2, Nat.add_assoc d q 1, h.closed _ q _ (q + 2) (Nat.le_refl _) (hm.add 2), h.ident _ q (Nat.le_refl _) hm, ed, h.hex, h.num _ _ (q + 1) (Nat.le_refl _) (by omega), h.quot _ q _ (q + 1) _ (Nat.le_refl _) (hm.add 1), h.quot _ q _ (q + 1) _ (Nat.le_refl _) (hm.add 1), h.closed _ q _ (q + 1) (Nat.le_refl _) (hm.add 1), h.sign, Nat.add_assoc d q, ofN_sh, ofN_sh, of_sh, of_sh, of_sh]
  simp only [apply_ite (Th.shd d)]
  rfl
def tkSh (d : Nat) (t : Tk) : Tk := (t.1, t.2.1, d + t.2.2)
theorem ends_sh (t : Tk) : endsB (tkSh d t) = endsB t := rfl
theorem feed_sh {T : List Tk} (hT : nfL T) (l : List Tk) (q : Nat) : feedL (T ++ l.map (tkSh d)) (d + q) = T ++ (feedL l q).map (tkSh d) := by
  rcases List.eq_nil_or_concat l with rfl | ⟨l', t, rfl⟩
  · rw [List.map_nil, List.append_nil, feed_nf hT]
    simp [feedL]
  · unfold feedL
    rw [List.concat_eq_append, List.getLast?_concat, List.map_append, List.map_singleton, ← List.append_assoc, List.getLast?_concat]
    show (if endsB (tkSh d t) = true then (T ++ l'.map (tkSh d) ++ [tkSh d t]) ++ [(6, (⟨#[]⟩ : ByteArray), d + q)] else T ++ l'.map (tkSh d) ++ [tkSh d t]) = T ++ List.map (tkSh d) (if endsB t = true then (l' ++ [t]) ++ [(6, (⟨#[]⟩ : ByteArray), q)] else l' ++ [t])
    rw [ends_sh]
    split
    · simp [tkSh]
    · simp [tkSh]
theorem parts_second (h : Tl b S d) {T : List Tk} (hT : nfL T) : ∀ (q : Nat) (l m : List Tk), Mk b d q → ∀ m', (lexT S (d + q) (T ++ l.map (tkSh d)) m').1 = T ++ (lexT b q l m).1.map (tkSh d) := by
  refine lex_ind b _ ?_ ?_ ?_
  · intro q l m hq hm m'
    rw [lexT_out hq, lexT_out (fun x => hq ((h.lt q).1 x)), h.1]
    show feedL _ (d + b.size) ++ _ = _
    rw [feed_sh hT]
    simp [tkSh]
  · intro q l m f hq ht hm m'
    rw [lexT_bad hq ht, lexT_bad ((h.lt q).2 hq) (by rw [h.thing hq hm, ht]; rfl)]
    simp [tkSh]
  · intro q l m hq hok ih hm m'
    have he := (thing_ends hq).2 hok
    have ht := h.thing hq hm
    have hok' : (Go.Proofs.YtejogobhnbjpdaaDoor.thing S (d + q)).ok = true := by
      rw [ht]; revert hok; cases Go.Proofs.YtejogobhnbjpdaaDoor.thing b q <;> (intro x; first | rfl | (cases x))
    rw [lexT_step hq hok, lexT_step ((h.lt q).2 hq) hok', ht]
    have ih := fun m' => ih (by obtain ⟨he, _⟩ := he; have := hm.add ((Go.Proofs.YtejogobhnbjpdaaDoor.thing b q).en q - q); rw [show q + ((Go.Proofs.YtejogobhnbjpdaaDoor.thing b q).en q - q) = (Go.Proofs.YtejogobhnbjpdaaDoor.thing b q).en q by omega] at this; exact this) m'
    cases hb : Go.Proofs.YtejogobhnbjpdaaDoor.thing b q with
    | bad f => rw [hb] at hok; cases hok
    | lf =>
      rw [hb] at ih
      show (lexT S (d + q + 1) (feedL (T ++ l.map (tkSh d)) (d + q)) m').1 = _
      rw [feed_sh hT]
      exact ih m'
    | blank =>
      rw [hb] at ih
      exact ih m'
    | note e =>
      rw [hb] at ih he
      have he1 : q < e := he.1
      have he2 : e ≤ b.size := he.2.1
      have e1 : hasLF S (d + q) (d + e) = hasLF b q e := by
        have := lf_ag (h.ag (q := q) (n := e - q) (by omega))
        rw [show d + q + (e - q) = d + e by omega, show q + (e - q) = e by omega] at this
        exact this
      show (lexT S (d + e) (if hasLF S (d + q) (d + e) = true then feedL (T ++ l.map (tkSh d)) (d + q) else T ++ l.map (tkSh d)) _).1 = _
      have ih : ∀ m', (lexT S (d + e) (T ++ (if hasLF b q e = true then feedL l q else l).map (tkSh d)) m').1 = _ := ih
      rw [e1, feed_sh hT, ← ih]
      split <;> rfl
    | tok k e =>
      rw [hb] at ih he
      have he1 : q < e := he.1
      have he2 : e ≤ b.size := he.2.1
      have e1 : S.extract (d + q) (d + e) = b.extract q e := by
        have := ext_ag (h.ag (q := q) (n := e - q) (by omega))
        rw [show d + q + (e - q) = d + e by omega, show q + (e - q) = e by omega] at this
        exact this
      show (lexT S (d + e) (T ++ l.map (tkSh d) ++ [(k, S.extract (d + q) (d + e), d + q)]) m').1 = _
      have ih : ∀ m', (lexT S (d + e) (T ++ (l ++ [(k, b.extract q e, q)]).map (tkSh d)) m').1 = _ := ih
      rw [e1, ← ih m']
      simp [tkSh]
end
/-- A text without a mark has none at its beginning. -/
theorem no_mark {s : ByteArray} (h : Lib.hasPrefix s.data.toList [239, 187, 191] = false) : (runeAt s 0).1 ≠ 65279 := by
  intro hr
  by_cases h0 : 0 < s.size
  · obtain ⟨m, h1, h4, hno, hg, e, hn⟩ := rune_good h0 (by omega)
    rw [e] at hr
    have hr : (cand s 0 m : Int) = 65279 := hr
    have hr : cand s 0 m = 65279 := by omega
    have b0 := (s.get! 0).toNat_lt
    have b1 := (s.get! (0 + 1)).toNat_lt
    have b2 := (s.get! (0 + 2)).toNat_lt
    have b3 := (s.get! (0 + 3)).toNat_lt
    rcases (by omega : m = 1 ∨ m = 2 ∨ m = 3 ∨ m = 4) with rfl | rfl | rfl | rfl
    · simp only [cand] at hr; omega
    · simp only [cand] at hr; omega
    · obtain ⟨g1, g2, g3, g4, _⟩ := (good3 s 0 h0).1 hg
      simp only [cand] at hr
      have : pre s 0 [239, 187, 191] = true := by
        rw [pre_iff s 0 _ (by omega)]
        refine ⟨by simp only [List.length_cons, List.length_nil]; omega, fun j hj => ?_⟩
        have hj : j < 3 := hj
        unfold byt
        rcases (by omega : j = 0 ∨ j = 1 ∨ j = 2) with rfl | rfl | rfl
        · show some 239 = some _; congr 1; simp only [Nat.zero_add] at *; omega
        · show some 187 = some _; congr 1; simp only [Nat.zero_add] at *; omega
        · show some 191 = some _; congr 1; simp only [Nat.zero_add] at *; omega
      unfold pre at this
      rw [List.drop_zero, h] at this
      cases this
    · obtain ⟨g1, g2, g3, g4, g5, g6, _⟩ := (good4 s 0 h0).1 hg
      simp only [cand] at hr g6
      omega
  · unfold runeAt dec at hr
    rw [show s.size - 0 = 0 by omega] at hr
    revert hr
    have : ∀ b0 b1 b2 b3 : Nat, (runeV (Lib.decodeN 0 b0 b1 b2 b3).1 (Lib.decodeN 0 b0 b1 b2 b3).2 0).1 ≠ 65279 := by
      intro b0 b1 b2 b3
      unfold runeV Lib.decodeN
      repeat' split
      all_goals (simp only; omega)
    exact fun hr => this _ _ _ _ hr
end Go.Proofs.YtejogobhnbjpdaaDoor
