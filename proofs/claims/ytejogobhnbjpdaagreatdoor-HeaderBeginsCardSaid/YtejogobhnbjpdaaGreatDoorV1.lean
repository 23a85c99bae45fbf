/- Where a header's places lie; Walks: the statement HeaderFaults. -/
import Derived.Test.YtejogobhnbjpdaaGreatDoorU2
import Derived.Test.YtejogobhnbjpdaaGreatDoorHc
import Derived.Test.YtejogobhnbjpdaaGreatDoorR2
namespace Go.Proofs.YtejogobhnbjpdaaGreatDoor
set_option linter.unusedVariables false
set_option linter.unusedSimpArgs false
open Go.ChangeShapes Go.WideShapes Go.ChangeAt Go.RowKit

/-- A token that isn't made of nothing. -/
def Writ (t : Tk) : Prop := t.1 ≠ 0 → t.1 ≠ 6 → t.1 ≠ 7 → t.2.1.size ≠ 0
theorem snoc_w {l : List Tk} (h : ∀ t ∈ l, Writ t) {x : Tk} (hx : Writ x) : ∀ t ∈ l ++ [x], Writ t := fun u hu => by
  rcases List.mem_append.1 hu with h1 | h1
  · exact h u h1
  · rw [List.mem_singleton.1 h1]; exact hx
theorem feed_w {l : List Tk} (h : ∀ t ∈ l, Writ t) (q : Nat) : ∀ t ∈ feedL l q, Writ t := by
  unfold feedL
  cases hl : l.getLast? with
  | none => exact h
  | some t =>
    show ∀ u ∈ (if endsB t = true then l ++ [(6, (⟨#[]⟩ : ByteArray), q)] else l), Writ u
    split
    · exact snoc_w h (fun _ h6 _ => absurd rfl h6)
    · exact h
theorem lexT_w {s : ByteArray} : ∀ q l m, (∀ t ∈ l, Writ t) → ∀ t ∈ (lexT s q l m).1, Writ t := by
  refine lex_ind s _ ?_ ?_ ?_
  · intro q l m h hl
    rw [lexT_out h]
    exact snoc_w (feed_w hl _) (fun h0 _ _ => absurd rfl h0)
  · intro q l m f h ht hl
    rw [lexT_bad h ht]
    exact snoc_w hl (fun _ _ h7 => absurd rfl h7)
  · intro q l m h hok ih hl
    rw [lexT_step h hok]
    have hen := (thing_ends h).2 hok
    refine ih ?_
    cases ht : thing s q with
    | bad f => rw [ht] at hok; cases hok
    | lf => exact feed_w hl _
    | blank => exact hl
    | note e =>
      show ∀ u ∈ (if hasLF s q e = true then feedL l q else l), Writ u
      split
      · exact feed_w hl _
      · exact hl
    | tok k e =>
      rw [ht] at hen
      have h1 : q < e := hen.1
      have h2 : e ≤ s.size := hen.2.1
      refine snoc_w hl (fun _ _ _ => ?_)
      show (s.extract q e).size ≠ 0
      rw [ByteArray.size_extract]; omega
theorem lexL_w (s : ByteArray) : ∀ t ∈ lexL s, Writ t := lexT_w _ _ _ (fun _ h => by cases h)
/-- A written token behind the first one. -/
theorem tok_at {s : ByteArray} {i k p : Nat} {x : ByteArray} (h : (lexL s)[i]? = some (k, x, p)) (hx : x.size ≠ 0) (hi : 1 ≤ i) : 0 < p ∧ p < s.size := by
  have h1 := lexT_at s (skN s) [] [] i k p x (by simp) h hx
  obtain ⟨h2, h3, h4⟩ := lexT_tok s (skN s) [] [] i k p x (by simp) h hx
  have h5 := ((thing_ends h2).2 h3).1
  rcases h4 with ⟨h6, _⟩ | ⟨h6, _⟩
  · simp at h6; omega
  · omega
theorem specsR_all {T : List Tk} (Q : Im → Prop) (h : ∀ i m, 1 ≤ i → (specR T i).1 = some m → Q m) : ∀ (n i : Nat) (I : List Im), T.length - i ≤ n → 1 ≤ i → (∀ t ∈ I, Q t) → ∀ t ∈ (specsR T i I).2.2, Q t := by
  have snoc : ∀ {I : List Im} {m : Im}, (∀ t ∈ I, Q t) → Q m → ∀ t ∈ I ++ [m], Q t := fun h hm u hu => by
    rcases List.mem_append.1 hu with h1 | h1
    · exact h u h1
    · rw [List.mem_singleton.1 h1]; exact hm
  intro n
  induction n using Nat.strongRecOn with
  | _ n ih =>
    intro i I hn h1i hI
    by_cases hi : i < T.length
    case neg => rw [specsR_out _ hi]; exact hI
    by_cases hc : tIs 5 ⟨#[41]⟩ (tk T i) = true
    · rw [specsR_close _ hi hc]; exact hI
    rw [Bool.not_eq_true] at hc
    cases hs : (specR T i).1 with
    | none => rw [specsR_none _ hi hc hs]; exact hI
    | some m =>
      have hp := specR_pos hs
      have hI2 := snoc hI (h i m h1i hs)
      rw [specsR_some _ hi hc hs]
      split
      · exact ih (T.length - ((specR T i).2 + 1)) (by omega) _ _ (Nat.le_refl _) (by omega) hI2
      · split
        · exact ih (T.length - (specR T i).2) (by omega) _ _ (Nat.le_refl _) (by omega) hI2
        · exact hI2
theorem specs1_all {T : List Tk} (Q : Im → Prop) (h : ∀ i m, 1 ≤ i → (specR T i).1 = some m → Q m) (i : Nat) (I : List Im) (hi : 1 ≤ i) (hI : ∀ t ∈ I, Q t) : ∀ t ∈ (specs1 T i I).2.2, Q t := by
  unfold specs1
  split
  · exact specsR_all Q h _ _ _ (Nat.le_refl _) (by omega) hI
  · cases hs : (specR T i).1 with
    | none => simpa using hI
    | some m =>
      intro u hu
      have hu : u ∈ I ++ [m] := hu
      rcases List.mem_append.1 hu with h1 | h1
      · exact hI u h1
      · rw [List.mem_singleton.1 h1]; exact h i m hi hs
theorem declR_all {T : List Tk} (Q : Im → Prop) (h : ∀ i m, 1 ≤ i → (specR T i).1 = some m → Q m) : ∀ (n i : Nat) (I : List Im), T.length - i ≤ n → 1 ≤ i → (∀ t ∈ I, Q t) → ∀ t ∈ (declR T i I).2.2, Q t := by
  intro n
  induction n using Nat.strongRecOn with
  | _ n ih =>
    intro i I hn h1i hI
    by_cases hi : i < T.length
    case neg => rw [declR_out _ hi]; exact hI
    by_cases hc : tIs 1 wImport (tk T i) = true
    case neg =>
      rw [Bool.not_eq_true] at hc
      rw [declR_end _ hi hc]; exact hI
    have h2 := specs1_all Q h (i + 1) I (by omega) hI
    by_cases hg : i < (specs1 T (i + 1) I).2.1
    case neg => rw [declR_back _ hi hc hg]; exact hI
    by_cases h1 : (specs1 T (i + 1) I).1 = true
    case neg =>
      rw [Bool.not_eq_true] at h1
      rw [declR_bad _ hi hc hg h1]; exact h2
    rw [declR_on _ hi hc hg h1]
    split
    · exact ih (T.length - ((specs1 T (i + 1) I).2.1 + 1)) (by omega) _ _ (Nat.le_refl _) (by omega) h2
    · exact h2
theorem beginR_all {T : List Tk} (Q : Im → Prop) (h : ∀ i m, 1 ≤ i → (specR T i).1 = some m → Q m) : ∀ t ∈ (beginR T).2.2, Q t := by
  have hd := declR_all Q h _ 3 [] (Nat.le_refl _) (by decide) (fun t ht => by cases ht)
  unfold beginR
  split
  · intro t ht; cases ht
  · split <;> exact hd
theorem size_ne {x : ByteArray} (h : x ≠ ⟨#[]⟩) : x.size ≠ 0 := fun h0 => h (ba_ext (by
  have : x.data.toList.length = 0 := by rw [← Lib.size_eq]; exact h0
  rw [List.eq_nil_of_length_eq_zero this]))
/-- What the statement asks of an import. -/
def ImOk (s : ByteArray) (m : Im) : Prop := m.2.1 ≠ ⟨#[]⟩ ∧ 0 < m.2.2 ∧ m.2.2 < s.size
theorem imp_ok (s : ByteArray) : ∀ t ∈ (beginR (lexL s)).2.2, ImOk s t := by
  refine beginR_all _ (fun i m hi hs => ?_)
  unfold specR at hs
  split at hs
  case isFalse => cases hs
  rename_i hc
  injection hs with hs
  subst hs
  have hp := hc.2
  unfold pathOk at hp
  rw [Bool.and_eq_true] at hp
  refine ⟨of_decide_eq_true hp.1, ?_⟩
  have hit : i < (lexL s).length := by
    apply Classical.byContradiction
    intro hn
    have hge : i ≤ nx (named (tk (lexL s) i)) i := by unfold nx; split <;> omega
    rw [tk_out (show ¬ nx (named (tk (lexL s) i)) i < (lexL s).length by omega)] at hc
    exact absurd hc.1 (by decide)
  have hm := List.mem_of_getElem? (tk_some hit)
  have hw : (tk (lexL s) i).2.1.size ≠ 0 := by
    by_cases hn : named (tk (lexL s) i) = true
    · unfold named at hn
      rcases Bool.or_eq_true_iff.1 hn with h | h
      · unfold tIs at h
        simp at h
        rw [h.2]; decide
      · unfold tName at h
        simp at h
        exact lexL_w s _ hm (by omega) (by omega) (by omega)
    · have e : nx (named (tk (lexL s) i)) i = i := by unfold nx; rw [if_neg hn]
      rw [e] at hc
      exact lexL_w s _ hm (by omega) (by omega) (by omega)
  exact tok_at (i := i) (k := (tk (lexL s) i).1) (x := (tk (lexL s) i).2.1) (p := (tk (lexL s) i).2.2) (tk_some hit) hw hi
theorem name_ok {s : ByteArray} (hs : s.size ≤ 1048576) (h : (beginR (lexL s)).1 = 0) : (tk (lexL s) 1).2.1 ≠ ⟨#[]⟩ := by
  have P := pre_of s hs
  have hb := beginR_ok P.e
  have h3 := hb.2 h
  have hc : (clauseR (lexL s)).1 = true := by
    rw [← Bool.not_eq_false]
    intro hc
    unfold beginR at h
    rw [if_pos hc] at h
    revert h
    show (if _ then 1 else 2) = 0 → False
    split <;> exact fun e => absurd e (by decide)
  have hn : tName (tk (lexL s) 1) = true := by
    unfold clauseR at hc
    split at hc
    · cases hc
    · split at hc
      · cases hc
      · split at hc
        · cases hc
        · rename_i h2
          simpa using h2
  unfold tName at hn
  simp at hn
  have hm := List.mem_of_getElem? (tk_some (T := lexL s) (i := 1) (by omega))
  intro he
  exact lexL_w s _ hm (by omega) (by omega) (by omega) (by rw [he]; rfl)
end Go.Proofs.YtejogobhnbjpdaaGreatDoor
namespace Go.Proofs.YtejogobhnbjpdaaGreatDoor
set_option linter.unusedVariables false
set_option linter.unusedSimpArgs false
open Go.ChangeShapes Go.WideShapes Go.ChangeAt Go.RowKit

theorem lat_tk {w : World} {b off cap n_ : Nat} {l : List Tk} (h : LAt 3 tkV w (.slice (some ⟨b, off, none⟩) n_ cap) l) {i : Nat} {x : Tk} (hx : l[i]? = some x) :
    b < w.heap.size ∧ w.cell? ⟨b, off + i * 3, none⟩ = some (.int .i64 x.1) ∧ w.cell? ⟨b, off + i * 3 + 1, none⟩ = some (.string x.2.1) ∧ w.cell? ⟨b, off + i * 3 + 2, none⟩ = some (.int .i64 x.2.2) := by
  obtain ⟨k, y, p⟩ := x
  exact h.cells hx
set_option maxRecDepth 100000 in
set_option maxHeartbeats 4000000 in
theorem faults_walk (s : ByteArray) (w : World) (hs0 : s.size ≤ 140737488351232) (hTab : Tabs w) : Calls Tryz.prog 5 #[.string s] w (LawEnd w) := by
  have HA := Lib.hid (alive12_any w hTab)
  have HT := Lib.hid hTab
  clear hTab
  by_cases hbig : 2048 < s.size
  · have hbI : (2048 : Int) < (s.size : Int) := by omega
    go_enter Tryz.func5, Tryz.ntmps5
    go_wp2_with fail
    refine HA.out.mono ?_
    rintro r w1 ⟨rfl, hB⟩
    have HB := Lib.hid hB
    clear hB
    go_wp2_with fail
    go_ret
    exact ⟨rfl, HB.out⟩
  have hbI : ¬ (2048 : Int) < (s.size : Int) := by omega
  have hsz : s.size ≤ 1048576 := by omega
  have HX := Lib.hid (fun w1 (h : Below w.heap.size w w1) => parse_at s w1 hsz (tabs_below HT.out h))
  have HL := Lib.hid (fun w1 => refLex_any s w1 hsz)
  have hpl := parse_place s hsz
  have hIO := Lib.hid (imp_ok s)
  have hNO := Lib.hid (fun h => name_ok (s := s) hsz h)
  have hln := lexL_len s
  have hPB := parse_b s hsz
  have hil := hPB.il
  have hal := hPB.at_
  clear hPB
  generalize parseR s = h at *
  cases hpl with
  | ok nm bd I E hI hn h0 =>
    dsimp only at hil
    have HI := Lib.hid (show ∀ t ∈ I, ImOk s t from fun t ht => hIO.out t (by rw [← hI]; exact ht))
    have hne : nm ≠ ⟨#[]⟩ := by rw [hn]; exact hNO.out h0
    have hk := str_lit nm #[]
    rw [decide_eq_false hne] at hk
    have hkn := ne_of_eqb hk
    clear hI hn h0 hIO hNO hne HL
    go_enter Tryz.func5, Tryz.ntmps5
    go_wp2_with fail
    refine HA.out.mono ?_
    rintro r w1 ⟨rfl, hB⟩
    have HB := Lib.hid hB
    clear hB
    go_wp2_with fail
    refine (HX.out _ HB.out).mono ?_
    rintro r w2 ⟨v2, rfl, ⟨iv, ev, rfl, hi, he⟩, hB⟩
    dsimp only at hi he
    obtain ⟨pe, ce, rfl, _⟩ := lat_shape he
    obtain ⟨pi, ci, rfl, hpi⟩ := lat_shape hi
    have HB2 := Lib.hid (HB.out.trans (hB.mono HB.out.size))
    have hn1 := heap_alloc_new w2 (.cells #[.string nm, .slice pi I.length ci, .string bd, .slice pe E.length ce, .int .i64 0, .int .i64 0] 26)
    have hb3 := (Below.refl w2.heap.size w2).alloc (Nat.le_refl _) (.cells #[.string nm, .slice pi I.length ci, .string bd, .slice pe E.length ce, .int .i64 0, .int .i64 0] 26)
    have Hn := Lib.hid hn1
    have HB3 := Lib.hid (HB2.out.trans (hb3.mono HB2.out.size))
    have Hi := Lib.hid (hi.below hb3)
    have Hpi := Lib.hid hpi
    clear hB hi he hpi hn1 hb3 HB
    dsimp only
    go_upto_region 6 with fail
    generalize w2.alloc (.cells #[.string nm, .slice pi I.length ci, .string bd, .slice pe E.length ce, .int .i64 0, .int .i64 0] 26) = w3 at *
    generalize w2.heap.size = n at *
    have c4 := block_cell Hn.out 4
    have c1 := block_cell Hn.out 1
    go_wp2_with fail
    clear c4 c1
    go_loopg [5, 23] I.length (fun g _ iv wr => ∃ k : Nat, k + g = I.length ∧ iv = .int .i64 k ∧ Hid (Below w3.heap.size w3 wr))
    case atStart => exact ⟨0, by omega, rfl, Lib.hid (Below.refl _ _)⟩
    case round =>
      obtain ⟨k, hkg, rfl, HR⟩ := hrel
      have hsz3 := HR.out.size
      by_cases hlt : k < I.length
      · have hltI : (k : Int) < (I.length : Int) := by omega
        obtain ⟨g, off, rfl⟩ := Hpi.out (by omega)
        have hi2 := Hi.out.below HR.out
        obtain ⟨hgl, c0, c1, c2⟩ := im_cell hi2 (i := k) (List.getElem?_eq_getElem hlt)
        obtain ⟨o1, o2, o3⟩ := HI.out _ (List.getElem_mem hlt)
        have kp := str_lit I[k].2.1 #[]
        rw [decide_eq_false o1] at kp
        have hB4 := Lib.hid (fun o : Obj => HR.out.trans (((Below.refl wr.heap.size wr).alloc (Nat.le_refl _) o).mono HR.out.size))
        generalize I[k] = x at *
        obtain ⟨x1, x2, x3⟩ := x
        dsimp only at c0 c1 c2 o1 o2 o3 kp
        have o2I : ¬ (x3 : Int) ≤ 0 := by omega
        have o3I : ¬ (s.size : Int) ≤ (x3 : Int) := by omega
        clear hi2 o1
        go_wp2_with fail
        go_roundg (gk - 1)
        case measure => omega
        case rel => exact ⟨k + 1, by omega, by go_num, Lib.hid (hB4.out _)⟩
      have hnI : ¬ (k : Int) < (I.length : Int) := by omega
      have hx := (HR.out.block _ (lt_of_block Hn.out)).trans Hn.out
      have c0 := block_cell hx 0
      have c5 := block_cell hx 5
      have HBR := Lib.hid (HB3.out.trans (HR.out.mono HB3.out.size))
      clear hx
      go_wp2_with fail
      go_ret
      exact ⟨rfl, HBR.out⟩
  | wrong f hf x hx =>
    have hal : x.2.2 ≤ 4194304 := hal
    obtain ⟨j, hj⟩ := List.getElem?_of_mem hx
    have hjl := (List.getElem?_eq_some_iff.1 hj).1
    have Hj := Lib.hid hj
    have HS := Lib.hid (fun (iv ev : Value) w1 (hi : LAt 3 imV w1 iv []) (he : LAt 1 strV w1 ev []) => sameHdr_any (.wrong f x.2.2) (.wrong f x.2.2) (.agg #[.string ⟨#[]⟩, iv, .string ⟨#[]⟩, ev, .int .i64 f, .int .i64 x.2.2]) (.agg #[.string ⟨#[]⟩, .slice none 0 0, .string ⟨#[]⟩, .slice none 0 0, .int .i64 f, .int .i64 x.2.2]) w1 ⟨_, _, rfl, hi, he⟩ ⟨_, _, rfl, zero_lat, zero_lat⟩ (fun t ht => by cases ht) (fun t ht => by cases ht) (Nat.zero_le _) (Nat.zero_le _))
    have hsm : sameH (.wrong f x.2.2) (.wrong f x.2.2) = true := decide_eq_true ⟨rfl, rfl, rfl, rfl, rfl, rfl⟩
    rw [hsm] at HS
    clear hsm hx hj
    unfold Hdr.wrong at HX
    obtain ⟨x1, x2, a⟩ := x
    dsimp only at HX HS hal
    obtain ⟨len, hlen⟩ : ∃ len, len = (lexL s).length := ⟨_, rfl⟩
    have hll : len ≤ 4194304 := by omega
    have HLn := Lib.hid hlen
    have hjl2 : j < len := by omega
    clear hjl hlen hIO hNO hln hil
    rcases hf with rfl | rfl | rfl
    · go_enter Tryz.func5, Tryz.ntmps5
      go_wp2_with fail
      refine HA.out.mono ?_
      rintro r w1 ⟨rfl, hB⟩
      have HB := Lib.hid hB
      clear hB
      go_wp2_with fail
      refine (HX.out _ HB.out).mono ?_
      rintro r w2 ⟨v2, rfl, ⟨iv, ev, rfl, hi, he⟩, hB⟩
      dsimp only at hi he
      obtain ⟨pe, ce, rfl, _⟩ := lat_shape he
      obtain ⟨pi, ci, rfl, _⟩ := lat_shape hi
      have HB2 := Lib.hid (HB.out.trans (hB.mono HB.out.size))
      have hn1 := heap_alloc_new w2 (.cells #[.string ⟨#[]⟩, .slice pi 0 ci, .string ⟨#[]⟩, .slice pe 0 ce, .int .i64 1, .int .i64 a] 26)
      have hb3 := (Below.refl w2.heap.size w2).alloc (Nat.le_refl _) (.cells #[.string ⟨#[]⟩, .slice pi 0 ci, .string ⟨#[]⟩, .slice pe 0 ce, .int .i64 1, .int .i64 a] 26)
      have Hn := Lib.hid hn1
      have HB3 := Lib.hid (HB2.out.trans (hb3.mono HB2.out.size))
      have HSM := Lib.hid (HS.out _ _ _ (hi.below hb3) (he.below hb3))
      clear hB hi he hn1 hb3 HB
      dsimp only [List.length_nil]
      go_upto_region 6 with fail
      generalize w2.alloc (.cells #[.string ⟨#[]⟩, .slice pi 0 ci, .string ⟨#[]⟩, .slice pe 0 ce, .int .i64 1, .int .i64 a] 26) = w3 at *
      generalize w2.heap.size = n at *
      have c0 := block_cell Hn.out 0
      have c1 := block_cell Hn.out 1
      have c2 := block_cell Hn.out 2
      have c3 := block_cell Hn.out 3
      have c4 := block_cell Hn.out 4
      have c5 := block_cell Hn.out 5
      go_wp2_with fail
      refine HSM.out.mono ?_
      rintro r w4 ⟨rfl, hB⟩
      have Hn4 := Lib.hid ((hB.block _ (lt_of_block Hn.out)).trans Hn.out)
      have HB4 := Lib.hid (HB3.out.trans (hB.mono HB3.out.size))
      clear hB c0 c1 c2 c3 c4 c5
      go_wp2_with fail
      refine (HL.out _).mono ?_
      rintro r w5 ⟨v5, u5, rfl, hv, hu, hB⟩
      have hx5 := (hB.block _ (lt_of_block Hn4.out)).trans Hn4.out
      have Hn5 := Lib.hid hx5
      have HB5 := Lib.hid (HB4.out.trans (hB.mono HB4.out.size))
      obtain ⟨p1, cp1, rfl, hp1⟩ := hv.shape
      obtain ⟨p2, cp2, rfl, hp2⟩ := hu.shape
      have HV := Lib.hid hv
      have Hp := Lib.hid hp1
      have c4 := block_cell hx5 4
      clear hB hv hu hp1 hp2 hx5
      rw [← HLn.out] at HV Hp ⊢
      go_wp2_with fail
      clear c4
      go_loopg [9, 75] len (fun g _ iv wr => ∃ k : Nat, k + g = len ∧ k ≤ j ∧ iv = .int .i64 k ∧ Hid (Below w5.heap.size w5 wr))
      case atStart => exact ⟨0, by omega, by omega, rfl, Lib.hid (Below.refl _ _)⟩
      case round =>
        obtain ⟨k, hkg, hkj, rfl, HR⟩ := hrel
        have hs5 := HR.out.size
        have hltI : (k : Int) < (len : Int) := by omega
        have hkl : k < (lexL s).length := by have := HLn.out; omega
        obtain ⟨g, off, rfl⟩ := Hp.out (by omega)
        have hv6 := HV.out.below HR.out
        obtain ⟨hgl, c0, c1, c2⟩ := lat_tk hv6 (i := k) (List.getElem?_eq_getElem hkl)
        have hx6 := (HR.out.block _ (lt_of_block Hn5.out)).trans Hn5.out
        have hnl := lt_of_block hx6
        have d5 := block_cell hx6 5
        have hB6 := Lib.hid (fun o : Obj => HR.out.trans (((Below.refl wr.heap.size wr).alloc (Nat.le_refl _) o).mono HR.out.size))
        have ka := int_eqb (lexL s)[k].2.2 a
        have hkne : ¬ (lexL s)[k].2.2 = a → k ≠ j := fun h e => by
          subst e
          have := Hj.out
          rw [List.getElem?_eq_getElem hkl] at this
          injection this with this
          apply h
          rw [this]
        have Hkne := Lib.hid hkne
        clear hkne hv6 hx6
        generalize (lexL s)[k] = y at *
        obtain ⟨y1, y2, y3⟩ := y
        dsimp only at c0 c1 c2 ka
        by_cases he : y3 = a
        · rw [decide_eq_true he] at ka
          have kan := ne_of_eqb ka
          clear he
          have hne5 : n ≠ wr.heap.size := by omega
          have HBF := Lib.hid (fun o : Obj => HB5.out.trans ((hB6.out o).mono HB5.out.size))
          go_wp2_with fail
          go_ret
          exact ⟨rfl, HBF.out _⟩
        · have hkj2 : k ≠ j := Hkne.out he
          rw [decide_eq_false he] at ka
          have kan := ne_of_eqb ka
          clear he
          have hne5 : n ≠ wr.heap.size := by omega
          go_wp2_with fail
          go_roundg (gk - 1)
          case measure => omega
          case rel => exact ⟨k + 1, by omega, by omega, by go_num, Lib.hid (hB6.out _)⟩
    · go_enter Tryz.func5, Tryz.ntmps5
      go_wp2_with fail
      refine HA.out.mono ?_
      rintro r w1 ⟨rfl, hB⟩
      have HB := Lib.hid hB
      clear hB
      go_wp2_with fail
      refine (HX.out _ HB.out).mono ?_
      rintro r w2 ⟨v2, rfl, ⟨iv, ev, rfl, hi, he⟩, hB⟩
      dsimp only at hi he
      obtain ⟨pe, ce, rfl, _⟩ := lat_shape he
      obtain ⟨pi, ci, rfl, _⟩ := lat_shape hi
      have HB2 := Lib.hid (HB.out.trans (hB.mono HB.out.size))
      have hn1 := heap_alloc_new w2 (.cells #[.string ⟨#[]⟩, .slice pi 0 ci, .string ⟨#[]⟩, .slice pe 0 ce, .int .i64 2, .int .i64 a] 26)
      have hb3 := (Below.refl w2.heap.size w2).alloc (Nat.le_refl _) (.cells #[.string ⟨#[]⟩, .slice pi 0 ci, .string ⟨#[]⟩, .slice pe 0 ce, .int .i64 2, .int .i64 a] 26)
      have Hn := Lib.hid hn1
      have HB3 := Lib.hid (HB2.out.trans (hb3.mono HB2.out.size))
      have HSM := Lib.hid (HS.out _ _ _ (hi.below hb3) (he.below hb3))
      clear hB hi he hn1 hb3 HB
      dsimp only [List.length_nil]
      go_upto_region 6 with fail
      generalize w2.alloc (.cells #[.string ⟨#[]⟩, .slice pi 0 ci, .string ⟨#[]⟩, .slice pe 0 ce, .int .i64 2, .int .i64 a] 26) = w3 at *
      generalize w2.heap.size = n at *
      have c0 := block_cell Hn.out 0
      have c1 := block_cell Hn.out 1
      have c2 := block_cell Hn.out 2
      have c3 := block_cell Hn.out 3
      have c4 := block_cell Hn.out 4
      have c5 := block_cell Hn.out 5
      go_wp2_with fail
      refine HSM.out.mono ?_
      rintro r w4 ⟨rfl, hB⟩
      have Hn4 := Lib.hid ((hB.block _ (lt_of_block Hn.out)).trans Hn.out)
      have HB4 := Lib.hid (HB3.out.trans (hB.mono HB3.out.size))
      clear hB c0 c1 c2 c3 c4 c5
      go_wp2_with fail
      refine (HL.out _).mono ?_
      rintro r w5 ⟨v5, u5, rfl, hv, hu, hB⟩
      have hx5 := (hB.block _ (lt_of_block Hn4.out)).trans Hn4.out
      have Hn5 := Lib.hid hx5
      have HB5 := Lib.hid (HB4.out.trans (hB.mono HB4.out.size))
      obtain ⟨p1, cp1, rfl, hp1⟩ := hv.shape
      obtain ⟨p2, cp2, rfl, hp2⟩ := hu.shape
      have HV := Lib.hid hv
      have Hp := Lib.hid hp1
      have c4 := block_cell hx5 4
      clear hB hv hu hp1 hp2 hx5
      rw [← HLn.out] at HV Hp ⊢
      go_wp2_with fail
      clear c4
      go_loopg [9, 75] len (fun g _ iv wr => ∃ k : Nat, k + g = len ∧ k ≤ j ∧ iv = .int .i64 k ∧ Hid (Below w5.heap.size w5 wr))
      case atStart => exact ⟨0, by omega, by omega, rfl, Lib.hid (Below.refl _ _)⟩
      case round =>
        obtain ⟨k, hkg, hkj, rfl, HR⟩ := hrel
        have hs5 := HR.out.size
        have hltI : (k : Int) < (len : Int) := by omega
        have hkl : k < (lexL s).length := by have := HLn.out; omega
        obtain ⟨g, off, rfl⟩ := Hp.out (by omega)
        have hv6 := HV.out.below HR.out
        obtain ⟨hgl, c0, c1, c2⟩ := lat_tk hv6 (i := k) (List.getElem?_eq_getElem hkl)
        have hx6 := (HR.out.block _ (lt_of_block Hn5.out)).trans Hn5.out
        have hnl := lt_of_block hx6
        have d5 := block_cell hx6 5
        have hB6 := Lib.hid (fun o : Obj => HR.out.trans (((Below.refl wr.heap.size wr).alloc (Nat.le_refl _) o).mono HR.out.size))
        have ka := int_eqb (lexL s)[k].2.2 a
        have hkne : ¬ (lexL s)[k].2.2 = a → k ≠ j := fun h e => by
          subst e
          have := Hj.out
          rw [List.getElem?_eq_getElem hkl] at this
          injection this with this
          apply h
          rw [this]
        have Hkne := Lib.hid hkne
        clear hkne hv6 hx6
        generalize (lexL s)[k] = y at *
        obtain ⟨y1, y2, y3⟩ := y
        dsimp only at c0 c1 c2 ka
        by_cases he : y3 = a
        · rw [decide_eq_true he] at ka
          have kan := ne_of_eqb ka
          clear he
          have hne5 : n ≠ wr.heap.size := by omega
          have HBF := Lib.hid (fun o : Obj => HB5.out.trans ((hB6.out o).mono HB5.out.size))
          go_wp2_with fail
          go_ret
          exact ⟨rfl, HBF.out _⟩
        · have hkj2 : k ≠ j := Hkne.out he
          rw [decide_eq_false he] at ka
          have kan := ne_of_eqb ka
          clear he
          have hne5 : n ≠ wr.heap.size := by omega
          go_wp2_with fail
          go_roundg (gk - 1)
          case measure => omega
          case rel => exact ⟨k + 1, by omega, by omega, by go_num, Lib.hid (hB6.out _)⟩
    · go_enter Tryz.func5, Tryz.ntmps5
      go_wp2_with fail
      refine HA.out.mono ?_
      rintro r w1 ⟨rfl, hB⟩
      have HB := Lib.hid hB
      clear hB
      go_wp2_with fail
      refine (HX.out _ HB.out).mono ?_
      rintro r w2 ⟨v2, rfl, ⟨iv, ev, rfl, hi, he⟩, hB⟩
      dsimp only at hi he
      obtain ⟨pe, ce, rfl, _⟩ := lat_shape he
      obtain ⟨pi, ci, rfl, _⟩ := lat_shape hi
      have HB2 := Lib.hid (HB.out.trans (hB.mono HB.out.size))
      have hn1 := heap_alloc_new w2 (.cells #[.string ⟨#[]⟩, .slice pi 0 ci, .string ⟨#[]⟩, .slice pe 0 ce, .int .i64 3, .int .i64 a] 26)
      have hb3 := (Below.refl w2.heap.size w2).alloc (Nat.le_refl _) (.cells #[.string ⟨#[]⟩, .slice pi 0 ci, .string ⟨#[]⟩, .slice pe 0 ce, .int .i64 3, .int .i64 a] 26)
      have Hn := Lib.hid hn1
      have HB3 := Lib.hid (HB2.out.trans (hb3.mono HB2.out.size))
      have HSM := Lib.hid (HS.out _ _ _ (hi.below hb3) (he.below hb3))
      clear hB hi he hn1 hb3 HB
      dsimp only [List.length_nil]
      go_upto_region 6 with fail
      generalize w2.alloc (.cells #[.string ⟨#[]⟩, .slice pi 0 ci, .string ⟨#[]⟩, .slice pe 0 ce, .int .i64 3, .int .i64 a] 26) = w3 at *
      generalize w2.heap.size = n at *
      have c0 := block_cell Hn.out 0
      have c1 := block_cell Hn.out 1
      have c2 := block_cell Hn.out 2
      have c3 := block_cell Hn.out 3
      have c4 := block_cell Hn.out 4
      have c5 := block_cell Hn.out 5
      go_wp2_with fail
      refine HSM.out.mono ?_
      rintro r w4 ⟨rfl, hB⟩
      have Hn4 := Lib.hid ((hB.block _ (lt_of_block Hn.out)).trans Hn.out)
      have HB4 := Lib.hid (HB3.out.trans (hB.mono HB3.out.size))
      clear hB c0 c1 c2 c3 c4 c5
      go_wp2_with fail
      refine (HL.out _).mono ?_
      rintro r w5 ⟨v5, u5, rfl, hv, hu, hB⟩
      have hx5 := (hB.block _ (lt_of_block Hn4.out)).trans Hn4.out
      have Hn5 := Lib.hid hx5
      have HB5 := Lib.hid (HB4.out.trans (hB.mono HB4.out.size))
      obtain ⟨p1, cp1, rfl, hp1⟩ := hv.shape
      obtain ⟨p2, cp2, rfl, hp2⟩ := hu.shape
      have HV := Lib.hid hv
      have Hp := Lib.hid hp1
      have c4 := block_cell hx5 4
      clear hB hv hu hp1 hp2 hx5
      rw [← HLn.out] at HV Hp ⊢
      go_wp2_with fail
      clear c4
      go_loopg [9, 75] len (fun g _ iv wr => ∃ k : Nat, k + g = len ∧ k ≤ j ∧ iv = .int .i64 k ∧ Hid (Below w5.heap.size w5 wr))
      case atStart => exact ⟨0, by omega, by omega, rfl, Lib.hid (Below.refl _ _)⟩
      case round =>
        obtain ⟨k, hkg, hkj, rfl, HR⟩ := hrel
        have hs5 := HR.out.size
        have hltI : (k : Int) < (len : Int) := by omega
        have hkl : k < (lexL s).length := by have := HLn.out; omega
        obtain ⟨g, off, rfl⟩ := Hp.out (by omega)
        have hv6 := HV.out.below HR.out
        obtain ⟨hgl, c0, c1, c2⟩ := lat_tk hv6 (i := k) (List.getElem?_eq_getElem hkl)
        have hx6 := (HR.out.block _ (lt_of_block Hn5.out)).trans Hn5.out
        have hnl := lt_of_block hx6
        have d5 := block_cell hx6 5
        have hB6 := Lib.hid (fun o : Obj => HR.out.trans (((Below.refl wr.heap.size wr).alloc (Nat.le_refl _) o).mono HR.out.size))
        have ka := int_eqb (lexL s)[k].2.2 a
        have hkne : ¬ (lexL s)[k].2.2 = a → k ≠ j := fun h e => by
          subst e
          have := Hj.out
          rw [List.getElem?_eq_getElem hkl] at this
          injection this with this
          apply h
          rw [this]
        have Hkne := Lib.hid hkne
        clear hkne hv6 hx6
        generalize (lexL s)[k] = y at *
        obtain ⟨y1, y2, y3⟩ := y
        dsimp only at c0 c1 c2 ka
        by_cases he : y3 = a
        · rw [decide_eq_true he] at ka
          have kan := ne_of_eqb ka
          clear he
          have hne5 : n ≠ wr.heap.size := by omega
          have HBF := Lib.hid (fun o : Obj => HB5.out.trans ((hB6.out o).mono HB5.out.size))
          go_wp2_with fail
          go_ret
          exact ⟨rfl, HBF.out _⟩
        · have hkj2 : k ≠ j := Hkne.out he
          rw [decide_eq_false he] at ka
          have kan := ne_of_eqb ka
          clear he
          have hne5 : n ≠ wr.heap.size := by omega
          go_wp2_with fail
          go_roundg (gk - 1)
          case measure => omega
          case rel => exact ⟨k + 1, by omega, by omega, by go_num, Lib.hid (hB6.out _)⟩
  | note f hf x hx =>
    have hal : x.2.2 ≤ 4194304 := hal
    obtain ⟨j, hj⟩ := List.getElem?_of_mem hx
    have hjl := (List.getElem?_eq_some_iff.1 hj).1
    have Hj := Lib.hid hj
    have HS := Lib.hid (fun (iv ev : Value) w1 (hi : LAt 3 imV w1 iv []) (he : LAt 1 strV w1 ev []) => sameHdr_any (.wrong f x.2.2) (.wrong f x.2.2) (.agg #[.string ⟨#[]⟩, iv, .string ⟨#[]⟩, ev, .int .i64 f, .int .i64 x.2.2]) (.agg #[.string ⟨#[]⟩, .slice none 0 0, .string ⟨#[]⟩, .slice none 0 0, .int .i64 f, .int .i64 x.2.2]) w1 ⟨_, _, rfl, hi, he⟩ ⟨_, _, rfl, zero_lat, zero_lat⟩ (fun t ht => by cases ht) (fun t ht => by cases ht) (Nat.zero_le _) (Nat.zero_le _))
    have hsm : sameH (.wrong f x.2.2) (.wrong f x.2.2) = true := decide_eq_true ⟨rfl, rfl, rfl, rfl, rfl, rfl⟩
    rw [hsm] at HS
    clear hsm hx hj
    unfold Hdr.wrong at HX
    obtain ⟨x1, x2, a⟩ := x
    dsimp only at HX HS hal
    obtain ⟨len, hlen⟩ : ∃ len, len = (lexM s).length := ⟨_, rfl⟩
    have hll : len ≤ 4194304 := by omega
    have HLn := Lib.hid hlen
    have hjl2 : j < len := by omega
    clear hjl hlen hIO hNO hln hil
    rcases hf with rfl | rfl
    · go_enter Tryz.func5, Tryz.ntmps5
      go_wp2_with fail
      refine HA.out.mono ?_
      rintro r w1 ⟨rfl, hB⟩
      have HB := Lib.hid hB
      clear hB
      go_wp2_with fail
      refine (HX.out _ HB.out).mono ?_
      rintro r w2 ⟨v2, rfl, ⟨iv, ev, rfl, hi, he⟩, hB⟩
      dsimp only at hi he
      obtain ⟨pe, ce, rfl, _⟩ := lat_shape he
      obtain ⟨pi, ci, rfl, _⟩ := lat_shape hi
      have HB2 := Lib.hid (HB.out.trans (hB.mono HB.out.size))
      have hn1 := heap_alloc_new w2 (.cells #[.string ⟨#[]⟩, .slice pi 0 ci, .string ⟨#[]⟩, .slice pe 0 ce, .int .i64 4, .int .i64 a] 26)
      have hb3 := (Below.refl w2.heap.size w2).alloc (Nat.le_refl _) (.cells #[.string ⟨#[]⟩, .slice pi 0 ci, .string ⟨#[]⟩, .slice pe 0 ce, .int .i64 4, .int .i64 a] 26)
      have Hn := Lib.hid hn1
      have HB3 := Lib.hid (HB2.out.trans (hb3.mono HB2.out.size))
      have HSM := Lib.hid (HS.out _ _ _ (hi.below hb3) (he.below hb3))
      clear hB hi he hn1 hb3 HB
      dsimp only [List.length_nil]
      go_upto_region 6 with fail
      generalize w2.alloc (.cells #[.string ⟨#[]⟩, .slice pi 0 ci, .string ⟨#[]⟩, .slice pe 0 ce, .int .i64 4, .int .i64 a] 26) = w3 at *
      generalize w2.heap.size = n at *
      have c0 := block_cell Hn.out 0
      have c1 := block_cell Hn.out 1
      have c2 := block_cell Hn.out 2
      have c3 := block_cell Hn.out 3
      have c4 := block_cell Hn.out 4
      have c5 := block_cell Hn.out 5
      go_wp2_with fail
      refine HSM.out.mono ?_
      rintro r w4 ⟨rfl, hB⟩
      have Hn4 := Lib.hid ((hB.block _ (lt_of_block Hn.out)).trans Hn.out)
      have HB4 := Lib.hid (HB3.out.trans (hB.mono HB3.out.size))
      clear hB c0 c1 c2 c3 c4 c5
      go_wp2_with fail
      refine (HL.out _).mono ?_
      rintro r w5 ⟨v5, u5, rfl, hv, hu, hB⟩
      have hx5 := (hB.block _ (lt_of_block Hn4.out)).trans Hn4.out
      have Hn5 := Lib.hid hx5
      have HB5 := Lib.hid (HB4.out.trans (hB.mono HB4.out.size))
      obtain ⟨p1, cp1, rfl, hp1⟩ := hv.shape
      obtain ⟨p2, cp2, rfl, hp2⟩ := hu.shape
      have HV := Lib.hid hu
      have Hp := Lib.hid hp2
      have c4 := block_cell hx5 4
      clear hB hv hu hp1 hp2 hx5
      rw [← HLn.out] at HV Hp ⊢
      go_wp2_with fail
      clear c4
      go_loopg [9, 75] len (fun g _ iv wr => ∃ k : Nat, k + g = len ∧ k ≤ j ∧ iv = .int .i64 k ∧ Hid (Below w5.heap.size w5 wr))
      case atStart => exact ⟨0, by omega, by omega, rfl, Lib.hid (Below.refl _ _)⟩
      case round =>
        obtain ⟨k, hkg, hkj, rfl, HR⟩ := hrel
        have hs5 := HR.out.size
        have hltI : (k : Int) < (len : Int) := by omega
        have hkl : k < (lexM s).length := by have := HLn.out; omega
        obtain ⟨g, off, rfl⟩ := Hp.out (by omega)
        have hv6 := HV.out.below HR.out
        obtain ⟨hgl, c0, c1, c2⟩ := lat_tk hv6 (i := k) (List.getElem?_eq_getElem hkl)
        have hx6 := (HR.out.block _ (lt_of_block Hn5.out)).trans Hn5.out
        have hnl := lt_of_block hx6
        have d5 := block_cell hx6 5
        have hB6 := Lib.hid (fun o : Obj => HR.out.trans (((Below.refl wr.heap.size wr).alloc (Nat.le_refl _) o).mono HR.out.size))
        have ka := int_eqb (lexM s)[k].2.2 a
        have hkne : ¬ (lexM s)[k].2.2 = a → k ≠ j := fun h e => by
          subst e
          have := Hj.out
          rw [List.getElem?_eq_getElem hkl] at this
          injection this with this
          apply h
          rw [this]
        have Hkne := Lib.hid hkne
        clear hkne hv6 hx6
        generalize (lexM s)[k] = y at *
        obtain ⟨y1, y2, y3⟩ := y
        dsimp only at c0 c1 c2 ka
        by_cases he : y3 = a
        · rw [decide_eq_true he] at ka
          have kan := ne_of_eqb ka
          clear he
          have hne5 : n ≠ wr.heap.size := by omega
          have HBF := Lib.hid (fun o : Obj => HB5.out.trans ((hB6.out o).mono HB5.out.size))
          go_wp2_with fail
          go_ret
          exact ⟨rfl, HBF.out _⟩
        · have hkj2 : k ≠ j := Hkne.out he
          rw [decide_eq_false he] at ka
          have kan := ne_of_eqb ka
          clear he
          have hne5 : n ≠ wr.heap.size := by omega
          go_wp2_with fail
          go_roundg (gk - 1)
          case measure => omega
          case rel => exact ⟨k + 1, by omega, by omega, by go_num, Lib.hid (hB6.out _)⟩
    · go_enter Tryz.func5, Tryz.ntmps5
      go_wp2_with fail
      refine HA.out.mono ?_
      rintro r w1 ⟨rfl, hB⟩
      have HB := Lib.hid hB
      clear hB
      go_wp2_with fail
      refine (HX.out _ HB.out).mono ?_
      rintro r w2 ⟨v2, rfl, ⟨iv, ev, rfl, hi, he⟩, hB⟩
      dsimp only at hi he
      obtain ⟨pe, ce, rfl, _⟩ := lat_shape he
      obtain ⟨pi, ci, rfl, _⟩ := lat_shape hi
      have HB2 := Lib.hid (HB.out.trans (hB.mono HB.out.size))
      have hn1 := heap_alloc_new w2 (.cells #[.string ⟨#[]⟩, .slice pi 0 ci, .string ⟨#[]⟩, .slice pe 0 ce, .int .i64 5, .int .i64 a] 26)
      have hb3 := (Below.refl w2.heap.size w2).alloc (Nat.le_refl _) (.cells #[.string ⟨#[]⟩, .slice pi 0 ci, .string ⟨#[]⟩, .slice pe 0 ce, .int .i64 5, .int .i64 a] 26)
      have Hn := Lib.hid hn1
      have HB3 := Lib.hid (HB2.out.trans (hb3.mono HB2.out.size))
      have HSM := Lib.hid (HS.out _ _ _ (hi.below hb3) (he.below hb3))
      clear hB hi he hn1 hb3 HB
      dsimp only [List.length_nil]
      go_upto_region 6 with fail
      generalize w2.alloc (.cells #[.string ⟨#[]⟩, .slice pi 0 ci, .string ⟨#[]⟩, .slice pe 0 ce, .int .i64 5, .int .i64 a] 26) = w3 at *
      generalize w2.heap.size = n at *
      have c0 := block_cell Hn.out 0
      have c1 := block_cell Hn.out 1
      have c2 := block_cell Hn.out 2
      have c3 := block_cell Hn.out 3
      have c4 := block_cell Hn.out 4
      have c5 := block_cell Hn.out 5
      go_wp2_with fail
      refine HSM.out.mono ?_
      rintro r w4 ⟨rfl, hB⟩
      have Hn4 := Lib.hid ((hB.block _ (lt_of_block Hn.out)).trans Hn.out)
      have HB4 := Lib.hid (HB3.out.trans (hB.mono HB3.out.size))
      clear hB c0 c1 c2 c3 c4 c5
      go_wp2_with fail
      refine (HL.out _).mono ?_
      rintro r w5 ⟨v5, u5, rfl, hv, hu, hB⟩
      have hx5 := (hB.block _ (lt_of_block Hn4.out)).trans Hn4.out
      have Hn5 := Lib.hid hx5
      have HB5 := Lib.hid (HB4.out.trans (hB.mono HB4.out.size))
      obtain ⟨p1, cp1, rfl, hp1⟩ := hv.shape
      obtain ⟨p2, cp2, rfl, hp2⟩ := hu.shape
      have HV := Lib.hid hu
      have Hp := Lib.hid hp2
      have c4 := block_cell hx5 4
      clear hB hv hu hp1 hp2 hx5
      rw [← HLn.out] at HV Hp ⊢
      go_wp2_with fail
      clear c4
      go_loopg [9, 75] len (fun g _ iv wr => ∃ k : Nat, k + g = len ∧ k ≤ j ∧ iv = .int .i64 k ∧ Hid (Below w5.heap.size w5 wr))
      case atStart => exact ⟨0, by omega, by omega, rfl, Lib.hid (Below.refl _ _)⟩
      case round =>
        obtain ⟨k, hkg, hkj, rfl, HR⟩ := hrel
        have hs5 := HR.out.size
        have hltI : (k : Int) < (len : Int) := by omega
        have hkl : k < (lexM s).length := by have := HLn.out; omega
        obtain ⟨g, off, rfl⟩ := Hp.out (by omega)
        have hv6 := HV.out.below HR.out
        obtain ⟨hgl, c0, c1, c2⟩ := lat_tk hv6 (i := k) (List.getElem?_eq_getElem hkl)
        have hx6 := (HR.out.block _ (lt_of_block Hn5.out)).trans Hn5.out
        have hnl := lt_of_block hx6
        have d5 := block_cell hx6 5
        have hB6 := Lib.hid (fun o : Obj => HR.out.trans (((Below.refl wr.heap.size wr).alloc (Nat.le_refl _) o).mono HR.out.size))
        have ka := int_eqb (lexM s)[k].2.2 a
        have hkne : ¬ (lexM s)[k].2.2 = a → k ≠ j := fun h e => by
          subst e
          have := Hj.out
          rw [List.getElem?_eq_getElem hkl] at this
          injection this with this
          apply h
          rw [this]
        have Hkne := Lib.hid hkne
        clear hkne hv6 hx6
        generalize (lexM s)[k] = y at *
        obtain ⟨y1, y2, y3⟩ := y
        dsimp only at c0 c1 c2 ka
        by_cases he : y3 = a
        · rw [decide_eq_true he] at ka
          have kan := ne_of_eqb ka
          clear he
          have hne5 : n ≠ wr.heap.size := by omega
          have HBF := Lib.hid (fun o : Obj => HB5.out.trans ((hB6.out o).mono HB5.out.size))
          go_wp2_with fail
          go_ret
          exact ⟨rfl, HBF.out _⟩
        · have hkj2 : k ≠ j := Hkne.out he
          rw [decide_eq_false he] at ka
          have kan := ne_of_eqb ka
          clear he
          have hne5 : n ≠ wr.heap.size := by omega
          go_wp2_with fail
          go_roundg (gk - 1)
          case measure => omega
          case rel => exact ⟨k + 1, by omega, by omega, by go_num, Lib.hid (hB6.out _)⟩
end Go.Proofs.YtejogobhnbjpdaaGreatDoor
