/- Walks: the laws ExprOthers and ExprDeep. -/
import Derived.Test.YtgfcangnfdndpaaDoorPc
namespace Go.Proofs.YtgfcangnfdndpaaDoor
set_option linter.unusedVariables false
open Go.ChangeShapes Go.WideShapes Go.ChangeAt Go.RowKit

theorem inB_three (on : List ByteArray) (o x : ByteArray) (h : x ≠ o) : inB (o :: (on ++ on)) x = inB on x := by
  rw [Bool.eq_iff_iff, inB_iff, inB_iff]
  simp only [List.mem_cons, List.mem_append]
  constructor
  · rintro (h' | h' | h')
    · exact absurd h' h
    · exact h'
    · exact h'
  · exact fun h' => .inr (.inl h')
/-- A list of texts that is handed on: nil, or cells. -/
theorem strs_two {w : World} {v : Value} {ss : List ByteArray} (h : Strs w v ss) : (∃ cap, v = .slice none 0 cap ∧ ss = []) ∨ ∃ ad cap, v = .slice (some ad) ss.length cap ∧ ∀ w', Below w.heap.size w w' → ∀ j y, (ss.map Value.string)[j]? = some y → w'.cell? (ad.add j) = some y := by
  rcases h with ⟨⟨p, cap, rfl⟩, rfl⟩ | ⟨b, off, cap, rfl, hl, hm, hb, hcell⟩
  · cases p with
    | none => exact .inl ⟨cap, rfl, rfl⟩
    | some ad => exact .inr ⟨ad, cap, rfl, fun w' _ j y hy => by simp at hy⟩
  · refine .inr ⟨⟨b, off, none⟩, cap, rfl, fun w' hB j y hy => ?_⟩
    rw [List.getElem?_map] at hy
    obtain ⟨z, hz, rfl⟩ := Option.map_eq_some_iff.1 hy
    have hj := (List.getElem?_eq_some_iff.1 hz).1
    have e : (⟨b, off, none⟩ : Addr).add j = ⟨b, off + j, none⟩ := by unfold Addr.add; split <;> simp_all
    rw [e, hB.cell (p := ⟨b, off + j, none⟩) hb, hcell j hj]
    rw [List.getElem?_eq_getElem hj] at hz
    simp [List.getD, hj, Option.some.inj hz]
theorem err_ne {c : Int} (h : c ≠ 0) : ((c != 0) : Bool) = true ∧ (c == 0) = false := ⟨by rw [bne_iff_ne]; exact h, by rw [beq_eq_false_iff_ne]; exact h⟩

set_option maxRecDepth 100000 in
set_option maxHeartbeats 2000000 in
theorem others_walk (u : Value) (s : ByteArray) (on : List ByteArray) (o : ByteArray) (w : World) (hu : Strs w u on) (hl : on.length ≤ 9223372036854775807) :
    Calls Tryd.prog 8 #[.string s, u, .string o] w (LawEnd w) := by
  obtain ⟨i0, hi, hz0, hz1, hz2⟩ := info_parts Tryd.info9
  have H10 := Lib.hid (alive_any w)
  have Hu := Lib.hid hu
  by_cases hle : s.size ≤ 1024
  · have hleI : (s.size : Int) ≤ 1024 := by omega
    by_cases hln : on.length ≤ 60
    · have hlnI : (on.length : Int) ≤ 60 := by omega
      have HP := Lib.hid (fun w1 => parse_any s w1 (by omega))
      have hcode := parse_code s
      unfold Parsed at HP
      obtain ⟨⟨l, c⟩, hr⟩ : ∃ r, parseR s = r := ⟨_, rfl⟩
      rw [hr] at HP hcode
      simp only at HP
      by_cases hc : c = 0
      · subst hc
        obtain ⟨e, he, rfl⟩ := hcode l rfl
        have hsz := code_size 1024 (by decide) e he
        have hev := evalR_code on 1024 e he
        have hev2 := evalR_code (o :: (on ++ on)) 1024 e he
        have hlen : (code e).length ≤ 1048576 ∨ True := .inr trivial
        have HI := Lib.hid (fun (v : Value) (w1 : World) (hv : Strs w1 v (code e)) => in_any v (code e) o w1 hv)
        have hcl : (code e).length ≤ 4096 := by
          have h1 := hr
          unfold parseR at h1
          rw [if_neg (by omega)] at h1
          cases ho : ors0 s with
          | err c => rw [ho] at h1; simp only at h1; have := (Prod.mk.inj h1).1; rw [← this]; simp
          | ok t =>
            rw [ho] at h1
            simp only at h1
            split at h1
            · have h2 := (Prod.mk.inj h1).1
              unfold ors0 at ho
              have := lvl_room _ _ _ _ ho
              simp only [List.length_nil, ba_len] at this
              rw [← h2]; omega
            · have h2 := (Prod.mk.inj h1).1; rw [← h2]; simp
        clear hr hcode hlen
        by_cases hin : inB (code e) o = true
        · rw [hin] at HI
          clear hin hsz hev hev2 he hcl
          obtain ⟨pu, capu, rfl, _⟩ := strs_shape hu
          clear hu
          go_enter Tryd.func8, Tryd.ntmps8
          go_wp2_with fail
          refine H10.out.mono ?_
          rintro e' w1 ⟨rfl, hB⟩
          go_wp2_with fail
          refine (HP.out _).mono ?_
          rintro e' w2 ⟨v, rfl, hv, hB2⟩
          replace hB := hB.trans (hB2.mono hB.size)
          have Hv := Lib.hid hv
          clear hB2 hv
          go_wp2_with fail
          refine (HI.out _ _ Hv.out).mono ?_
          rintro e' w3 ⟨rfl, rfl⟩
          go_wp2_with fail
          go_ret
          exact ⟨rfl, hB⟩
        · have hin := Bool.eq_false_iff.2 hin
          have hno := (inB_not _ _).1 hin
          rw [hin] at HI
          have hvv : val (o :: (on ++ on)) e = val on e := val_congr _ _ e (fun x hx => inB_three on o x (fun h => hno (h ▸ hx)))
          rw [hvv] at hev2
          have HE1 := Lib.hid (fun (v : Value) (w1 : World) (hv : Strs w1 v (code e)) (hB : Below w.heap.size w w1) => eval_any v u (code e) on w1 hv (Hu.out.below hB) (by omega) (by omega) (fun x hx => by have := hsz x hx; omega))
          have HE2 := Lib.hid (fun (v z : Value) (w1 : World) (hv : Strs w1 v (code e)) (hz : Strs w1 z (o :: (on ++ on))) => eval_any v z (code e) (o :: (on ++ on)) w1 hv hz (by omega) (by simp; omega) (fun x hx => by have := hsz x hx; omega))
          unfold Evald at HE1 HE2
          rw [hev] at HE1
          rw [hev2] at HE2
          generalize val on e = b at *
          clear hin hsz hev hev2 he hcl hno hvv
          rcases strs_two hu with ⟨capu, rfl, rfl⟩ | ⟨ad, capu, rfl, hcells⟩
          · clear hu
            go_enter Tryd.func8, Tryd.ntmps8
            go_wp2_with fail
            refine H10.out.mono ?_
            rintro e' w1 ⟨rfl, hB⟩
            go_wp2_with fail
            refine (HP.out _).mono ?_
            rintro e' w2 ⟨v, rfl, hv, hB2⟩
            replace hB := hB.trans (hB2.mono hB.size)
            have Hv := Lib.hid hv
            clear hB2 hv
            go_wp2_with fail
            refine (HI.out _ _ Hv.out).mono ?_
            rintro e' w3 ⟨rfl, rfl⟩
            go_wp2_with fail
            refine (HE1.out _ _ Hv.out hB).mono ?_
            rintro e' w4 ⟨rfl, hB2⟩
            replace hB := hB.trans (hB2.mono hB.size)
            have Hv4 := Lib.hid (Hv.out.below hB2)
            have hBs := hB.size
            clear hB2
            go_wp2_with fail
            refine (HE2.out _ _ _ (Hv4.out.below ((Below.refl w4.heap.size w4).alloc (Nat.le_refl _) _)) (Strs.ofRow (row_of_alloc [o] w4 (by unfold maxLen; simp)))).mono ?_
            rintro e' w5 ⟨rfl, hB2⟩
            replace hB := (hB.alloc hBs (Obj.cells (([o] : List ByteArray).map Value.string).toArray 9)).trans (hB2.mono (by simp; omega))
            go_wp2_with fail
            go_ret
            exact ⟨rfl, hB⟩
          · have Hcells := Lib.hid hcells
            have Hone := Lib.hid (show ∀ u ∈ on.map Value.string, u.oneCell' = true from by intro u hu; obtain ⟨z, _, rfl⟩ := List.mem_map.1 hu; rfl)
            have Hlen := Lib.hid (show (on.map Value.string).length = on.length * 1 from by simp)
            clear hu hcells
            go_enter Tryd.func8, Tryd.ntmps8
            go_wp2_with fail
            refine H10.out.mono ?_
            rintro e' w1 ⟨rfl, hB⟩
            go_wp2_with fail
            refine (HP.out _).mono ?_
            rintro e' w2 ⟨v, rfl, hv, hB2⟩
            replace hB := hB.trans (hB2.mono hB.size)
            have Hv := Lib.hid hv
            clear hB2 hv
            go_wp2_with fail
            refine (HI.out _ _ Hv.out).mono ?_
            rintro e' w3 ⟨rfl, rfl⟩
            go_wp2_with fail
            refine (HE1.out _ _ Hv.out hB).mono ?_
            rintro e' w4 ⟨rfl, hB2⟩
            replace hB := hB.trans (hB2.mono hB.size)
            have Hv4 := Lib.hid (Hv.out.below hB2)
            have HB := Lib.hid hB
            have hBs := hB.size
            clear hB2 hB
            go_wp2_with (first
              | (at_builtin; refine wpList_append_own _ rfl (.tmp 44) (.tmp 45) 23 rfl w4.heap.size 9 i0 (.string ⟨#[]⟩) 1 16 Tryd.underlying23 hi hz0 hz1 hz2 rfl (by decide) _ _ _ rfl (row_of_alloc [o] w4 (by unfold maxLen; simp)) ad on.length capu (on.map Value.string) rfl Hlen.out (Hcells.out _ (HB.out.alloc hBs _)) Hone.out (by unfold maxLen; simp; omega) (by simp; omega) (by simp) ?_; intro v6 w6 hown6 hgrow6 _; have hB46 := ((Below.refl w4.heap.size w4).alloc (Nat.le_refl _) (Obj.cells (([o] : List ByteArray).map Value.string).toArray 9)).grown hgrow6 (by simp) (fun q hq => by cases hq; exact Nat.le_refl _); have HB6 := Lib.hid (HB.out.trans (hB46.mono hBs)); have HB46 := Lib.hid hB46; have Hown6 := Lib.hid hown6; clear hB46 hown6 hgrow6)
              | (at_builtin; refine wpList_append_own _ rfl (.tmp 46) (.tmp 47) 23 rfl w4.heap.size 9 i0 (.string ⟨#[]⟩) 1 16 Tryd.underlying23 hi hz0 hz1 hz2 rfl (by decide) _ _ _ rfl Hown6.out ad on.length capu (on.map Value.string) rfl Hlen.out (Hcells.out _ HB6.out) Hone.out (by unfold maxLen; simp; omega) (by simp; omega) HB46.out.size ?_; intro v7 w7 hown7 hgrow7 _; have hB47 := HB46.out.grown hgrow7 (HB46.out.size) (fun q hq => (Hown6.out.lt q hq).1); have HB47 := Lib.hid hB47; have Hown7 := Lib.hid hown7; clear hB47 hown7 hgrow7))
            have hz7 : Strs w7 v7 (o :: (on ++ on)) := by
              refine Strs.ofRow (base := w4.heap.size) (n := [o].length + on.length + on.length) ?_
              have := Hown7.out
              simpa using this
            refine (HE2.out _ _ _ (Hv4.out.below HB47.out) hz7).mono ?_
            rintro e' w8 ⟨rfl, hB2⟩
            have hB := (HB.out.trans (HB47.out.mono hBs)).trans (hB2.mono (by have := HB47.out.size; omega))
            go_wp2_with fail
            go_ret
            exact ⟨rfl, hB⟩
      · obtain ⟨c1, c2⟩ := err_ne hc
        clear hcode hr
        obtain ⟨pu, capu, rfl, _⟩ := strs_shape hu
        clear hu
        go_enter Tryd.func8, Tryd.ntmps8
        go_wp2_with fail
        refine H10.out.mono ?_
        rintro e' w1 ⟨rfl, hB⟩
        go_wp2_with fail
        refine (HP.out _).mono ?_
        rintro e' w2 ⟨v, rfl, hv, hB2⟩
        replace hB := hB.trans (hB2.mono hB.size)
        clear hB2 hv
        go_wp2_with fail
        go_ret
        exact ⟨rfl, hB⟩
    · have hlnI : ¬ (on.length : Int) ≤ 60 := by omega
      obtain ⟨pu, capu, rfl, _⟩ := strs_shape hu
      clear hu
      go_enter Tryd.func8, Tryd.ntmps8
      go_wp2_with fail
      refine H10.out.mono ?_
      rintro e' w1 ⟨rfl, hB⟩
      go_wp2_with fail
      go_ret
      exact ⟨rfl, hB⟩
  · have hleI : ¬ (s.size : Int) ≤ 1024 := by omega
    obtain ⟨pu, capu, rfl, _⟩ := strs_shape hu
    clear hu
    go_enter Tryd.func8, Tryd.ntmps8
    go_wp2_with fail
    refine H10.out.mono ?_
    rintro e' w1 ⟨rfl, hB⟩
    go_wp2_with fail
    go_ret
    exact ⟨rfl, hB⟩
end Go.Proofs.YtgfcangnfdndpaaDoor
