/- Walks: the document's reader: Part, Not, And, Or; the recursion closed. -/
import Derived.Test.YtfkmijdpcenieaaDoorWo
import Derived.Test.YtfkmijdpcenieaaDoorWg
namespace Go.Proofs.YtfkmijdpcenieaaDoor
set_option linter.unusedVariables false
open Go.ChangeShapes Go.WideShapes Go.ChangeAt Go.RowKit

def fnP : Lv → Nat | .ors => 45 | .ands => 57 | .nots => 67 | .part => 78 | _ => 0
def RoomP (p : StP) : Prop := p.parts.length + p.left.length ≤ 4096 ∧ p.deep ≤ 64 ∧ ∀ x ∈ p.left, x.size ≤ 140737488351232
def PRP (base b k : Nat) : RsP → Int → World → Prop
  | .ok t, v, w' => v = 0 ∧ RdP base b t w'
  | .err c, v, w' => v = errC c ∧ ∃ q, RdP base b q w' ∧ q.parts.length + q.left.length ≤ k
def PEndP (base b k : Nat) (r : RsP) (w : World) (e : Ending) (w' : World) : Prop := ∃ v, e = .returned (.int .i64 v) ∧ PRP base b k r v w' ∧ Below base w w'
def COP (n : Nat) (L : Lv) : Prop := ∀ (base b : Nat) (p : StP) (w : World) (k : Nat), RdP base b p w → RoomP p → p.parts.length + p.left.length ≤ k → lvlP n L p ≠ .err .fuel → Calls Tryd.prog (fnP L) #[.pointer (some ⟨b, 0, none⟩)] w (PEndP base b k (lvlP n L p) w)
theorem takeP_len {sg : ByteArray} {X r : List ByteArray} (h : takeP sg X = (true, r)) : X.length = r.length + 1 := by rw [(takeP_true (Z := []) h).1]; rfl
theorem lvlP_room : ∀ (n : Nat) (L : Lv) (s t : StP), lvlP n L s = .ok t → t.parts.length + t.left.length ≤ s.parts.length + s.left.length := by
  intro n
  induction n with
  | zero => intro L s t h; cases h
  | succ n ih =>
    intro L s t h
    cases L with
    | ors =>
      simp only [lvlP] at h
      cases ha : lvlP n .ands s with
      | err e => rw [ha] at h; cases h
      | ok u => rw [ha] at h; exact Nat.le_trans (ih _ _ _ h) (ih _ _ _ ha)
    | ands =>
      simp only [lvlP] at h
      cases ha : lvlP n .nots s with
      | err e => rw [ha] at h; cases h
      | ok u => rw [ha] at h; exact Nat.le_trans (ih _ _ _ h) (ih _ _ _ ha)
    | orsT =>
      simp only [lvlP] at h
      cases hs : takeP orB s.left with
      | mk b r =>
        rw [hs] at h
        cases b with
        | false => cases h; rw [takeP_false hs]; exact Nat.le_refl _
        | true =>
          simp only at h
          have hr := takeP_len hs
          cases ha : lvlP n .ands { s with left := r } with
          | err e => rw [ha] at h; cases h
          | ok u =>
            rw [ha] at h
            have e := ih .ands { s with left := r } u ha
            have e2 := ih _ _ _ h
            simp only [List.length_append, List.length_singleton] at e e2
            omega
    | andsT =>
      simp only [lvlP] at h
      cases hs : takeP andB s.left with
      | mk b r =>
        rw [hs] at h
        cases b with
        | false => cases h; rw [takeP_false hs]; exact Nat.le_refl _
        | true =>
          simp only at h
          have hr := takeP_len hs
          cases ha : lvlP n .nots { s with left := r } with
          | err e => rw [ha] at h; cases h
          | ok u =>
            rw [ha] at h
            have e := ih .nots { s with left := r } u ha
            have e2 := ih _ _ _ h
            simp only [List.length_append, List.length_singleton] at e e2
            omega
    | nots =>
      simp only [lvlP] at h
      cases hs : takeP notB s.left with
      | mk b r =>
        rw [hs] at h
        cases b with
        | false => rw [takeP_false hs] at h; exact ih .part s t h
        | true =>
          simp only at h
          have hr := takeP_len hs
          cases ha : lvlP n .part { s with left := r } with
          | err e => rw [ha] at h; cases h
          | ok u =>
            rw [ha] at h
            cases h
            have e := ih .part { s with left := r } u ha
            simp only [List.length_append, List.length_singleton] at e ⊢
            omega
    | part =>
      simp only [lvlP] at h
      cases hs : takeP openB s.left with
      | mk b r =>
        rw [hs] at h
        cases b with
        | true => have hr := takeP_len hs; have e := ih .inner { s with left := r } t h; simp only at e; omega
        | false =>
          have hr := takeP_false hs
          simp only at h
          cases r with
          | nil => cases h
          | cons x q =>
            simp only at h
            split at h
            · cases h
              rw [← hr]
              simp only [List.length_append, List.length_cons, List.length_nil]
              omega
            · cases h
    | inner =>
      simp only [lvlP] at h
      split at h
      · cases h
      · cases ha : lvlP n .ors { s with deep := s.deep + 1 } with
        | err e => rw [ha] at h; cases h
        | ok u =>
          rw [ha] at h
          simp only at h
          have e := ih .ors { s with deep := s.deep + 1 } u ha
          simp only at e
          cases hs : takeP shutB u.left with
          | mk b r =>
            rw [hs] at h
            cases b with
            | true => cases h; have hr := takeP_len hs; simp only; omega
            | false => cases h
theorem RoomP.ok {n : Nat} {L : Lv} {p t : StP} (h : RoomP p) (hl : lvlP n L p = .ok t) : RoomP t ∧ t.parts.length + t.left.length ≤ p.parts.length + p.left.length := by
  obtain ⟨h1, h2, h3⟩ := h
  have hr := lvlP_room _ _ _ _ hl
  obtain ⟨hd, C, hC, _⟩ := lvlP_eats _ _ _ _ hl
  exact ⟨⟨by omega, by omega, fun x hx => h3 x (by rw [hC]; exact List.mem_append_right _ hx)⟩, hr⟩
theorem RoomP.taken {p : StP} {sg : ByteArray} {r : List ByteArray} (h : RoomP p) (hs : takeP sg p.left = (true, r)) : RoomP { p with left := r } ∧ p.parts.length + r.length + 1 = p.parts.length + p.left.length := by
  obtain ⟨h1, h2, h3⟩ := h
  have hr := takeP_len hs
  refine ⟨⟨by simp only; omega, h2, fun x hx => h3 x ?_⟩, by omega⟩
  rw [(takeP_true (Z := []) hs).1]; exact List.mem_cons_of_mem _ hx
theorem partP_zero {s : StP} {r : List ByteArray} (hs : takeP openB s.left = (true, r)) : lvlP 1 .part s = .err .fuel := by simp only [lvlP]; rw [hs]
theorem partP_yes {n : Nat} {s : StP} {r : List ByteArray} (hs : takeP openB s.left = (true, r)) : lvlP (n + 2) .part s = lvlP (n + 1) .inner { s with left := r } := by rw [lvlP]; rw [hs]
theorem partP_nil {n : Nat} {s : StP} (hs : s.left = []) : lvlP (n + 1) .part s = .err .form := by simp only [lvlP]; rw [hs]; rfl
theorem partP_no {n : Nat} {s : StP} {x : ByteArray} {q : List ByteArray} (hs : takeP openB s.left = (false, x :: q)) : lvlP (n + 1) .part s = if tagB x then .ok { left := q, parts := s.parts ++ [x], deep := s.deep } else .err .form := by simp only [lvlP]; rw [hs]
theorem innerP_deep {n : Nat} {s : StP} (h : 64 < s.deep + 1) : lvlP (n + 1) .inner s = .err .deep := by simp only [lvlP]; rw [if_pos h]
theorem innerP_err {n : Nat} {s : StP} {c : Er} (h : ¬ 64 < s.deep + 1) (h2 : lvlP n .ors { s with deep := s.deep + 1 } = .err c) : lvlP (n + 1) .inner s = .err c := by simp only [lvlP]; rw [if_neg h, h2]
theorem innerP_yes {n : Nat} {s t : StP} {r : List ByteArray} (h : ¬ 64 < s.deep + 1) (h2 : lvlP n .ors { s with deep := s.deep + 1 } = .ok t) (h3 : takeP shutB t.left = (true, r)) : lvlP (n + 1) .inner s = .ok { left := r, parts := t.parts, deep := t.deep - 1 } := by simp only [lvlP]; rw [if_neg h, h2]; simp only; rw [h3]
theorem innerP_no {n : Nat} {s t : StP} {r : List ByteArray} (h : ¬ 64 < s.deep + 1) (h2 : lvlP n .ors { s with deep := s.deep + 1 } = .ok t) (h3 : takeP shutB t.left = (false, r)) : lvlP (n + 1) .inner s = .err .form := by simp only [lvlP]; rw [if_neg h, h2]; simp only; rw [h3]
theorem nfv {c : Er} {v : Int} (h : c ≠ .fuel) (hv : v = errC c) : (v == 0) = false ∧ (v != 0) = true := by
  subst hv
  cases c
  · exact ⟨by decide, by decide⟩
  · exact ⟨by decide, by decide⟩
  · exact absurd rfl h

set_option maxRecDepth 100000 in
set_option maxHeartbeats 2000000 in
theorem part_p (n : Nat) (hO : ∀ m, m + 2 = n → COP m .ors) : COP n .part := by
  intro base b p w k hR hroom hk hnf
  obtain ⟨i0, hi, hz0, hz1, hz2⟩ := info_parts Tryd.info9
  have hbb := hR.1
  have HI := Lib.hid (take_any base b openB p w hR)
  unfold TakeEnd at HI
  cases n with
  | zero => exact absurd rfl hnf
  | succ n =>
    cases hs : takeP openB p.left with
    | mk ok r =>
      rw [hs] at HI
      cases ok with
      | true =>
        cases n with
        | zero => exact absurd (partP_zero hs) hnf
        | succ n =>
          obtain ⟨hroom1, hk1⟩ := hroom.taken hs
          rw [partP_yes hs] at hnf ⊢
          have hd64 := hroom.2.1
          obtain ⟨l, P, d⟩ := p
          simp only at hs hk hk1 hd64 hroom1 HI hnf ⊢
          by_cases hd : 64 < d + 1
          · rw [innerP_deep hd]
            have h1 : (64 : Int) < (d : Int) + 1 := by omega
            clear hnf
            show Calls Tryd.prog 78 _ _ _
            go_enter Tryd.func78, Tryd.ntmps78
            go_wp2_with fail
            refine HI.out.mono ?_
            rintro e w1 ⟨rfl, hR1, hB1⟩
            obtain ⟨hc2, hf2⟩ := hR1.cell2
            simp only at hc2
            have hbl := hR1.lt
            have hR2 := hR1.deep (d + 1)
            have e1 : (((d + 1 : Nat)) : Int) = (d : Int) + 1 := by omega
            rw [e1] at hR2
            have HR2 := Lib.hid hR2
            clear hR1 hR2 e1 hR
            go_wp2_with fail
            go_ret
            exact ⟨8, rfl, ⟨rfl, _, HR2.out, by simp only; omega⟩, hB1.setCell hbb _⟩
          · have h1 : ¬ (64 : Int) < (d : Int) + 1 := by omega
            have e1 : (((d + 1 : Nat)) : Int) = (d : Int) + 1 := by omega
            have hroom2 : RoomP ⟨r, P, d + 1⟩ := ⟨hroom1.1, by simp only; omega, hroom1.2.2⟩
            cases ha : lvlP n .ors ⟨r, P, d + 1⟩ with
            | err c =>
              have e := innerP_err (s := ⟨r, P, d⟩) hd ha
              rw [e] at hnf ⊢
              have hcf : c ≠ .fuel := fun h => hnf (by rw [h])
              have HC := Lib.hid (fun w2 (h2 : RdP base b ⟨r, P, d + 1⟩ w2) => (show Calls Tryd.prog 45 _ _ _ from hO n rfl base b _ w2 k h2 hroom2 (by simp only; omega) (by rw [ha]; exact hnf)))
              rw [ha] at HC
              clear hR hroom hnf hs hroom1 hroom2 ha e hO
              show Calls Tryd.prog 78 _ _ _
              go_enter Tryd.func78, Tryd.ntmps78
              go_wp2_with fail
              refine HI.out.mono ?_
              rintro e w1 ⟨rfl, hR1, hB1⟩
              obtain ⟨hc2, hf2⟩ := hR1.cell2
              simp only at hc2
              have hbl := hR1.lt
              have hR2 := hR1.deep (d + 1)
              rw [e1] at hR2
              have HR2 := Lib.hid hR2
              clear hR1 hR2 e1
              go_wp2_with fail
              refine (HC.out _ HR2.out).mono ?_
              rintro e w2 ⟨v, rfl, ⟨hv, hq⟩, hB2⟩
              obtain ⟨v1, v2⟩ := nfv hcf hv
              have Hv := Lib.hid hv
              have Hq := Lib.hid hq
              clear hv hq
              go_wp2_with fail
              go_ret
              exact ⟨_, rfl, ⟨Hv.out, Hq.out⟩, (hB1.setCell hbb _).trans hB2⟩
            | ok t =>
              obtain ⟨hroomt, hkt⟩ := hroom2.ok ha
              have hdt := (lvlP_eats _ _ _ _ ha).1
              have HC := Lib.hid (fun w2 (h2 : RdP base b ⟨r, P, d + 1⟩ w2) => (show Calls Tryd.prog 45 _ _ _ from hO n rfl base b _ w2 k h2 hroom2 (by simp only; omega) (by rw [ha]; intro h; cases h)))
              rw [ha] at HC
              simp only at hdt hkt
              have hdt0 : 1 ≤ t.deep := by omega
              have hdt1 : t.deep ≤ 65 := by omega
              cases hs2 : takeP shutB t.left with
              | mk ok2 r2 =>
                have HT := Lib.hid (fun w2 (h2 : RdP base b { t with deep := t.deep - 1 } w2) => take_any base b shutB { t with deep := t.deep - 1 } w2 h2)
                unfold TakeEnd at HT
                simp only at HT
                rw [hs2] at HT
                have hr2 : r2.length ≤ t.left.length := by
                  cases ok2 with
                  | true => have := takeP_len hs2; omega
                  | false => rw [takeP_false hs2]; exact Nat.le_refl _
                have hend : ∀ w', RdP base b { t with left := r2, deep := t.deep - 1 } w' → Below base w w' → PEndP base b k (lvlP (n + 1) .inner ⟨r, P, d⟩) w (.returned (.int .i64 (if ok2 then 0 else 4))) w' := by
                  intro w' h1 h2
                  cases ok2 with
                  | true => rw [innerP_yes (s := ⟨r, P, d⟩) hd ha hs2]; exact ⟨0, rfl, ⟨rfl, h1⟩, h2⟩
                  | false => rw [innerP_no (s := ⟨r, P, d⟩) hd ha hs2]; exact ⟨4, rfl, ⟨rfl, _, h1, by simp only; omega⟩, h2⟩
                have Hend := Lib.hid hend
                clear hR hroom hnf hs hroom1 hroom2 ha hO hend hroomt hdt hkt hs2 hr2 hk hk1
                show Calls Tryd.prog 78 _ _ _
                cases ok2
                all_goals
                  go_enter Tryd.func78, Tryd.ntmps78
                  go_wp2_with fail
                  refine HI.out.mono ?_
                  rintro e w1 ⟨rfl, hR1, hB1⟩
                  obtain ⟨hc2, hf2⟩ := hR1.cell2
                  simp only at hc2
                  have hbl := hR1.lt
                  have hR2 := hR1.deep (d + 1)
                  rw [e1] at hR2
                  have HR2 := Lib.hid hR2
                  clear hR1 hR2 e1
                  go_wp2_with fail
                  refine (HC.out _ HR2.out).mono ?_
                  rintro e w2 ⟨v, rfl, ⟨rfl, hR1⟩, hB2⟩
                  obtain ⟨hc3, hf3⟩ := hR1.cell2
                  have hbl2 := hR1.lt
                  have hR3 := hR1.deep (t.deep - 1)
                  have e3 : ((t.deep - 1 : Nat) : Int) = (t.deep : Int) - 1 := by omega
                  rw [e3] at hR3
                  have HR3 := Lib.hid hR3
                  have HB := Lib.hid ((hB1.setCell (p := ⟨b, 2, none⟩) hbb (.int .i64 ((d : Int) + 1))).trans hB2)
                  clear hR1 hR3 e3 hc2 hf2 hB1 hB2
                  go_wp2_with fail
                  refine (HT.out _ HR3.out).mono ?_
                  rintro e w4 ⟨rfl, hR4, hB4⟩
                  have HR4 := Lib.hid hR4
                  clear hR4
                  go_wp2_with fail
                  go_ret
                  exact Hend.out _ HR4.out ((HB.out.setCell hbb _).trans hB4)
      | false =>
        have hrl := takeP_false hs
        cases r with
        | nil =>
          rw [partP_nil hrl.symm]
          clear hnf
          have hlow := hrl
          obtain ⟨l, P, d⟩ := p
          simp only at hrl hk
          subst hrl
          show Calls Tryd.prog 78 _ _ _
          go_enter Tryd.func78, Tryd.ntmps78
          go_wp2_with fail
          refine HI.out.mono ?_
          rintro e w1 ⟨rfl, hR1, hB1⟩
          obtain ⟨lv, ⟨hc0, hf0⟩, hl0⟩ := hR1.cell0
          obtain ⟨q, cap, rfl⟩ := hl0.nil
          have HR1 := Lib.hid hR1
          clear hR1 hR hroom
          go_wp2_with fail
          go_ret
          exact ⟨4, rfl, ⟨rfl, _, HR1.out, hk⟩, hB1⟩
        | cons x q =>
          rw [partP_no hs]
          have hxz : x.size ≤ 140737488351232 := hroom.2.2 x (by rw [← hrl]; exact List.mem_cons_self)
          have HG := Lib.hid (fun w1 => refTag_any x w1 hxz)
          have hroom1 := hroom.1
          clear hnf hs hroom
          obtain ⟨l, P, d⟩ := p
          simp only at hrl hk hroom1 HI ⊢
          subst hrl
          cases ht : tagB x with
          | false =>
            rw [ht] at HG
            show Calls Tryd.prog 78 _ _ _
            go_enter Tryd.func78, Tryd.ntmps78
            go_wp2_with fail
            refine HI.out.mono ?_
            rintro e w1 ⟨rfl, hR1, hB1⟩
            obtain ⟨lv, ⟨hc0, hf0⟩, hl0⟩ := hR1.cell0
            obtain ⟨g, off, cap, rfl, h1, h2, h3, hx, h4⟩ := hl0.cons
            have HR1 := Lib.hid hR1
            clear hR1 hR h4 hl0 hroom1
            have Hk := Lib.hid hk
            clear hk ht
            generalize q.length = m at *
            go_wp2_with fail
            refine (HG.out _).mono ?_
            rintro e w2 ⟨rfl, rfl⟩
            go_wp2_with fail
            go_ret
            exact ⟨4, rfl, ⟨rfl, _, HR1.out, Hk.out⟩, hB1⟩
          | true =>
            rw [ht] at HG
            simp only [List.length_cons] at hroom1
            have hpl : P.length ≤ 4096 := by omega
            show Calls Tryd.prog 78 _ _ _
            go_enter Tryd.func78, Tryd.ntmps78
            go_wp2_with fail
            refine HI.out.mono ?_
            rintro e w1 ⟨rfl, hR1, hB1⟩
            have hbl := hR1.lt
            obtain ⟨_, lv, pv, hblk, hlow, hown, hne⟩ := hR1
            simp only at hblk hlow hown
            have hc0 : w1.cell? ⟨b, 0, none⟩ = some lv := by rw [block_cell hblk]; rfl
            have hc1 : w1.cell? ⟨b, 1, none⟩ = some pv := by rw [block_cell hblk]; rfl
            have hf0 := block_free hblk 0
            have hf1 := block_free hblk 1
            have Hlow := Lib.hid hlow
            have Hblk := Lib.hid hblk
            have Hown := Lib.hid hown
            have Hne := Lib.hid hne
            have HB1 := Lib.hid hB1
            obtain ⟨g, off, cap, rfl, h1, h2, h3, hx, h4⟩ := hlow.cons
            have hgl : g < w1.heap.size := by omega
            have hBs : base ≤ w1.heap.size := by omega
            clear hR h4 hlow hblk hown hne hB1 ht hroom1 hk
            generalize hm : q.length = m at *
            go_wp2_with fail
            refine (HG.out _).mono ?_
            rintro e w2 ⟨rfl, rfl⟩
            go_wp2_with fail
            go_region_law (refine step_append_lies _ rfl (.tmp 53) (.tmp 60) 22 rfl base 9 i0 (.string ⟨#[]⟩) 1 16 Tryd.underlying22 hi hz0 hz1 hz2 rfl (by decide) pv P.length (P.map Value.string) (by simp [Act.eval]) (Hown.out.alloc _) ⟨w1.heap.size, 0, none⟩ 1 1 [.string x] (by simp [Act.eval]) rfl (cell_one_new _ _ _) (by intro u hu; simp at hu; subst hu; rfl) (by decide) (by unfold maxLen; omega) (by omega) (by simp; omega) (w1.heap.size + 1) (by simp) ?_; intro g3 cap3 w3 hown3 hgrow3 hat3 hlt3; obtain ⟨⟨hc3, hf3⟩, hR3, hB3⟩ := RdP.push (u := ⟨x :: q, P, d⟩) hbb Hblk.out Hlow.out Hown.out Hne.out (((Below.refl base w1).alloc hBs _).drew) (Below.heap_alloc w1 _ b hbl) hgrow3 hown3 (hat3.imp id (fun h => by omega)); have HR3 := Lib.hid hR3; have HB3 := Lib.hid hB3; clear hown3 hgrow3 hat3 hR3 hB3 hlt3)
            all_goals
              clear hc0 hc1 hf0 hf1 hx
              obtain ⟨w4, hw4⟩ : ∃ w4, w4 = w3.setCell ⟨b, 1, none⟩ (.slice (some ⟨g3, 0, none⟩) (P.length + 1) cap3) := ⟨_, rfl⟩
              simp only at HR3 HB3
              rw [← hw4] at HR3 HB3 ⊢
              clear hw4 hc3 hf3
              obtain ⟨lv, ⟨hc0, hf0⟩, hl0⟩ := HR3.out.cell0
              simp only at hl0
              obtain ⟨g', off', cap', rfl, k1, k2, k3, kx, k4⟩ := hl0.cons
              have Ht := Lib.hid (fun v => Low.tail (v := v) k1 k2 k3 k4)
              clear k4 hl0
              rw [hm] at Ht k1 hc0
              go_wp2_with fail
              · rename_i hcap
                go_ret
                exact ⟨0, rfl, ⟨rfl, HR3.out.left (Ht.out _ (.inr ⟨by omega, _, _, by rw [show m = 0 by omega]⟩))⟩, (HB1.out.trans HB3.out).setCell hbb _⟩
              · go_ret
                exact ⟨0, rfl, ⟨rfl, HR3.out.left (Ht.out _ (.inl rfl))⟩, (HB1.out.trans HB3.out).setCell hbb _⟩
end Go.Proofs.YtfkmijdpcenieaaDoor
