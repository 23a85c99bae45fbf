/- Walks: the document's Eval. -/
import Derived.Test.YtgfcangnfdndpaaDoorWs
namespace Go.Proofs.YtgfcangnfdndpaaDoor
set_option linter.unusedVariables false
set_option linter.unusedSimpArgs false
open Go.ChangeShapes Go.WideShapes Go.ChangeAt Go.RowKit

def refE (on parts : List ByteArray) : Bool × Bool := match evalS on [] parts with | some [a] => (a, true) | _ => (false, false)
def EvaldP (r : Bool × Bool) (w : World) (e : Ending) (w' : World) : Prop := e = .returned (.tuple #[.bool r.1, .bool r.2]) ∧ Below w.heap.size w w'
theorem evaldP_of {r : Bool × Bool} {x c : Bool} {w w' : World} (h : r = (x, c)) (hB : Below w.heap.size w w') : EvaldP r w (.returned (.tuple #[.bool x, .bool c])) w' := by subst h; exact ⟨rfl, hB⟩

theorem own_empty {w : World} {base B : Nat} {t : TypeId} (h : w.heap[B]? = some (.cells #[] t (0, 0))) (hb : base ≤ B) : w.ownsRow base t 1 (.slice (some ⟨B, 0, none⟩) 0 0) 0 [] :=
  ⟨rfl, .inr ⟨B, 0, #[], rfl, hb, h, Nat.le_refl _, by unfold maxLen; omega, rfl, rfl⟩⟩
abbrev Em : Obj := .cells #[] 4
abbrev Xo (y : Bool) : Obj := .cells #[.bool y] 4
theorem bools_one (l : List Bool) : ∀ u ∈ l.map Value.bool, u.oneCell' = true := by intro u hu; obtain ⟨z, _, rfl⟩ := List.mem_map.1 hu; rfl
theorem add_off (g j : Nat) : (⟨g, 0, none⟩ : Addr).add j = ⟨g, j, none⟩ := by unfold Addr.add; split <;> simp_all
theorem two_heap (w : World) (y : Bool) : (w.alloc Em).heap[w.heap.size]? = some Em ∧ ((w.alloc (Xo y)).alloc Em).heap[w.heap.size + 1]? = some Em ∧ ((w.alloc (Xo y)).alloc Em).heap[w.heap.size]? = some (Xo y) ∧ ((w.alloc Em).alloc (Xo y)).heap[w.heap.size]? = some Em ∧ ((w.alloc Em).alloc (Xo y)).heap[w.heap.size + 1]? = some (Xo y) := by
  have z1 : (w.alloc (Xo y)).heap.size = w.heap.size + 1 := by simp
  have z2 : (w.alloc Em).heap.size = w.heap.size + 1 := by simp
  refine ⟨heap_alloc_new w _, ?_, ?_, ?_, ?_⟩
  · have := heap_alloc_new (w.alloc (Xo y)) Em; rwa [z1] at this
  · rw [Below.heap_alloc (w.alloc (Xo y)) Em _ (by omega)]; exact heap_alloc_new w _
  · rw [Below.heap_alloc (w.alloc Em) (Xo y) _ (by omega)]; exact heap_alloc_new w _
  · have := heap_alloc_new (w.alloc Em) (Xo y); rwa [z2] at this
theorem grown_cell {W w3 : World} {B Bx : Nat} {y : Bool} (h : W.heap[Bx]? = some (Xo y)) (hg : W.grownBy w3 (some B)) (hne : Bx ≠ B) : w3.heap[Bx]? = some (Xo y) := by
  rw [hg.block Bx (lt_of_block h) (by intro e; exact hne (by injection e)), h]
theorem xo_cell {w : World} {Bx : Nat} {y : Bool} (h : w.heap[Bx]? = some (Xo y)) : ∀ j u, ([Value.bool y])[j]? = some u → w.cell? ((⟨Bx, 0, none⟩ : Addr).add j) = some u := World.news_of_block h
theorem step_append_at {P : Program} {w : World} {ops : Array Oper} {o : Oper} {a : Act} {K : Act → World → Prop} {Q : Exit → Act → World → Prop} {E : Prop} (hgd : o.guard = none) (s x : Operand) (t : TypeId)
    (ho : o.op = .call { callee := .builtin .append, args := #[s, x], argTypes := #[t, t] })
    (base : Nat) (e : TypeId) (i : TypeInfo) (z : Value) (size bytes : Nat) (ht : P.underlying t = some (.slice e)) (hi : P.info? e = some i) (hz : i.zero = some z)
    (hsize : i.size = size) (hby : i.bytes = bytes) (hzs : z.cells.size = size) (hsz : 0 < size)
    (v : Value) (n : Nat) (xs : List Value) (hs : a.eval s = v) (hown : w.ownsRow base e size v n xs)
    (ad : Addr) (m c : Nat) (news : List Value) (hx : a.eval x = .slice (some ad) m c) (hl : news.length = m * size) (hnews : ∀ j u, news[j]? = some u → w.cell? (ad.add j) = some u) (h1 : ∀ u ∈ news, u.oneCell' = true)
    (h63 : n + m ≤ maxLen) (hbytes : (n + m) * bytes ≤ 140737488355328) (hbase : base ≤ w.heap.size)
    (h : ∀ v' w', w'.ownsRow base e size v' (n + m) (xs ++ news) → w.grownBy w' v.ownBlock → K (a.put o.dst v') w') :
    if Region.wanted o (yielded ops a.tmps) = true then Oper.wp P o a w K Q else E := by
  have hw : Region.wanted o (yielded ops a.tmps) = true := by simp [Region.wanted, hgd]
  rw [if_pos hw]
  obtain ⟨v', w', hr, h2, h3, h4, h5⟩ := run_append_own_at (P := P) w base t o.type e i z size bytes ht hi hz hsize hby hzs hsz v n xs hown ad m c news hl hnews h1 h63 hbytes hbase
  unfold Oper.wp execOp
  simp only [ho, resolve, invoke, builtin, Sem.run_bind, Sem.run_pure, Result.andThen_ok, List.map_toArray, List.map_cons, List.map_nil, hs, hx, hr]
  exact h v' w' h2 h3
set_option maxRecDepth 100000 in
set_option maxHeartbeats 4000000 in
theorem refEval_any (v u : Value) (parts on : List ByteArray) (w : World) (hv : Strs w v parts) (hu : Strs w u on) (hl : parts.length ≤ 1048576) (hon : on.length ≤ 1048576) (hz : ∀ x ∈ parts, x.size ≤ 140737488351232) :
    Calls Tryd.prog 17 #[v, u] w (EvaldP (refE on parts) w) := by
  obtain ⟨i0, hi, hz0, hz1, hz2⟩ := info_parts Tryd.info4
  have Hu := Lib.hid hu
  have Hz := Lib.hid hz
  obtain ⟨p, cap0, rfl, hp⟩ := strs_shape hv
  have Hp := Lib.hid hp
  obtain ⟨len, hlen⟩ : ∃ len, len = parts.length := ⟨_, rfl⟩
  rw [← hlen] at Hp hl ⊢
  have Hlen := Lib.hid hlen
  have He := Lib.hid (show refE on parts = match evalS on [] parts with | some [a] => (a, true) | _ => (false, false) from rfl)
  generalize refE on parts = R at *
  clear hv hu hp hlen hz
  go_enter Tryd.func17, Tryd.ntmps17
  go_wp2_with fail
  go_loopg [6, 8, 9, 12] len (fun g rv _ _ iv wr => ∃ (k : Nat) (st : List Bool), k + g = len ∧ iv = .int .i64 k ∧ Ans w.heap.size rv st wr ∧ evalS on [] parts = evalS on st (parts.drop k) ∧ st.length ≤ k ∧ Below w.heap.size w wr)
  case atStart => exact ⟨0, [], by omega, rfl, World.ownsRow_nil _ _ _ _, rfl, by simp, Below.refl _ _⟩
  case round =>
    obtain ⟨k, st, hkg, rfl, hown, hev, hstk, hB⟩ := hrel
    have hBs := hB.size
    have Hev := Lib.hid hev
    clear hev
    by_cases hlt : k < len
    · obtain ⟨b, off, rfl, hb, hcap, hmax, hcell⟩ := Hp.out (by omega)
      have hc := (hB.cell (p := ⟨b, off + k, none⟩) hb).trans (hcell k hlt)
      have hkl : k < parts.length := by have := Hlen.out; omega
      have hwd := evalS_drop on parts st k hkl
      have hxz := Hz.out (parts.getD k ByteArray.empty) (by simp only [List.getD, List.getElem?_eq_getElem hkl, Option.getD_some]; exact List.getElem_mem hkl)
      unfold maxLen at hmax
      obtain ⟨x, hx⟩ : ∃ x, x = parts.getD k ByteArray.empty := ⟨_, rfl⟩
      rw [← hx] at hc hwd hxz
      clear hx hcell
      have HT := Lib.hid (fun w1 => refTag_any x w1 hxz)
      by_cases c1 : x = notB
      · skip
        have h1 : (x.toList == ([33] : List UInt8)) = true := by rw [c1]; decide +kernel
        have h2 : (x.toList == ([38, 38] : List UInt8)) = false := by rw [c1]; decide +kernel
        have h3 : (x.toList == ([124, 124] : List UInt8)) = false := by rw [c1]; decide +kernel
        have ht : tagB x = false := by rw [c1]; decide +kernel
        rw [ht] at HT
        cases st with
        | nil =>
          have Hn := Lib.hid (show R = (false, false) by rw [He.out, Hev.out, hwd]; unfold stepE; rw [if_pos c1])
          obtain ⟨pr, capr, rfl, hnc, hcm, hsome⟩ := own4_shape hown
          clear hwd c1 ht hown hsome
          go_wp2_with fail
          refine (HT.out _).mono ?_
          rintro e w1 ⟨rfl, rfl⟩
          go_wp2_with fail
          go_ret2
          exact evaldP_of Hn.out hB
        | cons a t =>
          have Hn := Lib.hid (show evalS on [] parts = evalS on ((!a) :: t) (parts.drop (k + 1)) by rw [Hev.out, hwd]; unfold stepE; rw [if_pos c1])
          obtain ⟨pr, capr, rfl, hnc, hcm, hsome⟩ := own4_shape hown
          obtain ⟨g, rfl, hg⟩ := hsome (by simp)
          obtain ⟨m, hm⟩ : ∃ m, t.length = m := ⟨_, rfl⟩
          have hown' : wr.ownsRow w.heap.size 4 1 (.slice (some ⟨g, 0, none⟩) (m + 1) capr) (m + 1) ((t.reverse ++ [a]).map Value.bool) := by
            have := hown; unfold Ans at this; simpa [hm] using this
          rw [show (a :: t).length = m + 1 by simp [hm]] at hnc hstk ⊢
          have hca := ans_cell (i := m) hown' (show (t.reverse ++ [a])[m]? = some a by rw [← hm]; simp)
          have hgl := (hown'.lt g rfl).2
          have Hm := Lib.hid hm
          have Hown' := Lib.hid hown'
          have hwm := wrap_mid (m : Int) (by omega) (by omega)
          have hb0 : (0 : Int) ≤ (m : Int) := by omega
          have hb1 : (m : Int) ≤ (capr : Int) := by omega
          have hb2 : (m : Int) < (m : Int) + 1 := by omega
          clear hwd c1 ht hown hown' hsome hm
          go_wp2_with fail
          refine (HT.out _).mono ?_
          rintro e w1 ⟨rfl, rfl⟩
          go_wp2_with fail
          have hml : t.length = m := Hm.out
          clear HT h1 h2 h3 Hp hc
          obtain ⟨e1, e2, e2x, e3, e3x⟩ := two_heap wr (!a)
          have o1 : (wr.alloc Em).drew.ownsRow w.heap.size 4 1 (.slice (some ⟨wr.heap.size, 0, none⟩) 0 0) 0 [] := own_empty e1 hBs
          have o2 : ((wr.alloc (Xo (!a))).alloc Em).drew.ownsRow w.heap.size 4 1 (.slice (some ⟨wr.heap.size + 1, 0, none⟩) 0 0) 0 [] := own_empty e2 (by omega)
          have o3 : ((wr.alloc Em).alloc (Xo (!a))).drew.ownsRow w.heap.size 4 1 (.slice (some ⟨wr.heap.size, 0, none⟩) 0 0) 0 [] := own_empty e3 hBs
          have b1 : Below wr.heap.size wr (wr.alloc Em).drew := ((Below.refl _ _).alloc (Nat.le_refl _) _).drew
          have b2x : Below wr.heap.size wr ((wr.alloc (Xo (!a))).alloc Em).drew := (((Below.refl _ _).alloc (Nat.le_refl _) _).alloc (by simp) _).drew
          have b3 : Below wr.heap.size wr ((wr.alloc Em).alloc (Xo (!a))).drew := (((Below.refl _ _).alloc (Nat.le_refl _) _).alloc (by simp) _).drew
          have hnew : ∀ W', Below wr.heap.size wr W' → ∀ j u, (t.reverse.map Value.bool)[j]? = some u → W'.cell? ((⟨g, 0, none⟩ : Addr).add j) = some u := by
            intro W' hW' j u hu
            have hj : j < m := by have := (List.getElem?_eq_some_iff.1 hu).1; simpa [hml] using this
            have hjl : j < (t.reverse.map Value.bool).length := by rw [List.length_map, List.length_reverse, hml]; exact hj
            have h2 := Hown'.out.cells (g := g) rfl j u (by rw [List.map_append, List.getElem?_append_left hjl]; exact hu)
            have ea := add_off g j
            rw [ea] at h2 ⊢
            rw [hW'.cell (p := ⟨g, j, none⟩) hgl]; exact h2
          have n1 := hnew _ b1
          have n2 := hnew _ b2x
          have n3 := hnew _ b3
          have hz4 : g < ((wr.alloc Em).drew).heap.size := by show g < (wr.alloc Em).heap.size; simp; omega
          have hbq : ∀ i u, wr.cell? ⟨g, i, none⟩ = some u → ∀ w3, ((wr.alloc Em).drew).grownBy w3 (some wr.heap.size) → w3.cell? ⟨g, i, none⟩ = some u := fun i u hu w3 hg => ((hg.cell_far ⟨g, i, none⟩ hz4 (by intro e; injection e with e; simp only at e; omega)).trans (b1.cell (p := ⟨g, i, none⟩) hgl)).trans hu
          have HC3 := Lib.hid (hbq _ _ hca)
          have HC4 := HC3
          have O1 := Lib.hid o1
          have O2 := Lib.hid o2
          have O3 := Lib.hid o3
          have N1 := Lib.hid n1
          have N2 := Lib.hid n2
          have N3 := Lib.hid n3
          have B1 := Lib.hid ((hB.alloc hBs Em).drew)
          have B2 := Lib.hid (((hB.alloc hBs (Xo (!a))).alloc (by simp; omega) Em).drew)
          have B3 := Lib.hid (((hB.alloc hBs Em).alloc (by simp; omega) (Xo (!a))).drew)
          have E2x := Lib.hid e2x
          have E3x := Lib.hid e3x
          clear o1 o2 o3 n1 n2 n3 b1 b2x b3 e1 e2 e2x e3 e3x hnew hbq
          (first | (go_region_law (first
            | (refine step_append_at rfl (.tmp 32) (.tmp 36) 50 rfl w.heap.size 4 i0 (.bool false) 1 1 Tryd.underlying50 hi hz0 hz1 hz2 rfl (by decide) (.slice (some ⟨wr.heap.size, 0, none⟩) 0 0) 0 [] (by simp only [Act.eval]; rfl) O1.out ⟨g, 0, none⟩ m capr (t.reverse.map Value.bool) (by simp only [Act.eval]; rfl) (by simp [hml]) N1.out (bools_one t.reverse) (by unfold maxLen; omega) (by omega) (by simp; omega) ?_; intro v3 w3 hown3 hgrow3; have Hown3 := Lib.hid (show w3.ownsRow w.heap.size 4 1 v3 m (t.reverse.map Value.bool) by simpa using hown3); have Hl3 := Lib.hid (fun q (hq : v3.ownBlock = some q) => (hown3.lt q hq).1); have BB3 := Lib.hid (B1.out.grown hgrow3 (by have := B1.out.size; omega) (fun q hq => by cases hq; exact hBs)); have hc3 := HC3.out w3 hgrow3; have hc4 := HC4.out w3 hgrow3; clear hown3 hgrow3)
            | (refine step_append_at rfl (.tmp 32) (.tmp 36) 50 rfl w.heap.size 4 i0 (.bool false) 1 1 Tryd.underlying50 hi hz0 hz1 hz2 rfl (by decide) (.slice (some ⟨wr.heap.size, 0, none⟩) 0 0) 0 [] (by simp only [Act.eval]; rfl) O3.out ⟨g, 0, none⟩ m capr (t.reverse.map Value.bool) (by simp only [Act.eval]; rfl) (by simp [hml]) N3.out (bools_one t.reverse) (by unfold maxLen; omega) (by omega) (by simp; omega) ?_; intro v3 w3 hown3 hgrow3; have Hown3 := Lib.hid (show w3.ownsRow w.heap.size 4 1 v3 m (t.reverse.map Value.bool) by simpa using hown3); have Hl3 := Lib.hid (fun q (hq : v3.ownBlock = some q) => (hown3.lt q hq).1); have BB3 := Lib.hid (B3.out.grown hgrow3 (by have := B3.out.size; omega) (fun q hq => by cases hq; exact hBs)); have HX3 := Lib.hid (grown_cell (W := ((wr.alloc Em).alloc (Xo (!a))).drew) (B := wr.heap.size) (Bx := wr.heap.size + 1) E3x.out hgrow3 (Nat.succ_ne_self _)); clear hown3 hgrow3)
            | (refine step_append_at rfl (.tmp 32) (.tmp 36) 50 rfl w.heap.size 4 i0 (.bool false) 1 1 Tryd.underlying50 hi hz0 hz1 hz2 rfl (by decide) (.slice (some ⟨wr.heap.size + 1, 0, none⟩) 0 0) 0 [] (by simp only [Act.eval]; rfl) O2.out ⟨g, 0, none⟩ m capr (t.reverse.map Value.bool) (by simp only [Act.eval]; rfl) (by simp [hml]) N2.out (bools_one t.reverse) (by unfold maxLen; omega) (by omega) (by simp; omega) ?_; intro v3 w3 hown3 hgrow3; have Hown3 := Lib.hid (show w3.ownsRow w.heap.size 4 1 v3 m (t.reverse.map Value.bool) by simpa using hown3); have Hl3 := Lib.hid (fun q (hq : v3.ownBlock = some q) => (hown3.lt q hq).1); have BB3 := Lib.hid (B2.out.grown hgrow3 (by have := B2.out.size; omega) (fun q hq => by cases hq; exact Nat.le_succ_of_le hBs)); have HX3 := Lib.hid (grown_cell (W := ((wr.alloc (Xo (!a))).alloc Em).drew) (B := wr.heap.size + 1) (Bx := wr.heap.size) E2x.out hgrow3 (Nat.succ_ne_self _).symm); clear hown3 hgrow3)
            | (refine step_append_at rfl (.tmp 37) (.tmp 44) 50 rfl w.heap.size 4 i0 (.bool false) 1 1 Tryd.underlying50 hi hz0 hz1 hz2 rfl (by decide) v3 m (t.reverse.map Value.bool) (by simp only [Act.eval]; rfl) (Hown3.out.alloc _) ⟨w3.heap.size, 0, none⟩ 1 1 ([!a].map Value.bool) (by simp only [Act.eval]; rfl) (by simp [hml]) (cell_one_new _ _ _) (bools_one [!a]) (by unfold maxLen; omega) (by omega) (by have := BB3.out.size; simp; omega) ?_; intro v4 w4 hown4 hgrow4; have BB4 := Lib.hid ((BB3.out.alloc (by have := BB3.out.size; omega) _).grown hgrow4 (by have := BB3.out.size; simp; omega) Hl3.out); have Hown4 := Lib.hid hown4; clear hown4 hgrow4)
            | (refine step_append_at rfl (.tmp 37) (.tmp 44) 50 rfl w.heap.size 4 i0 (.bool false) 1 1 Tryd.underlying50 hi hz0 hz1 hz2 rfl (by decide) v3 m (t.reverse.map Value.bool) (by simp only [Act.eval]; rfl) Hown3.out ⟨wr.heap.size + 1, 0, none⟩ 1 1 ([!a].map Value.bool) (by simp only [Act.eval]; rfl) (by simp [hml]) (xo_cell HX3.out) (bools_one [!a]) (by unfold maxLen; omega) (by omega) (by have := BB3.out.size; omega) ?_; intro v4 w4 hown4 hgrow4; have BB4 := Lib.hid (BB3.out.grown hgrow4 (by have := BB3.out.size; omega) Hl3.out); have Hown4 := Lib.hid hown4; clear hown4 hgrow4)
            | (refine step_append_at rfl (.tmp 37) (.tmp 44) 50 rfl w.heap.size 4 i0 (.bool false) 1 1 Tryd.underlying50 hi hz0 hz1 hz2 rfl (by decide) v3 m (t.reverse.map Value.bool) (by simp only [Act.eval]; rfl) Hown3.out ⟨wr.heap.size, 0, none⟩ 1 1 ([!a].map Value.bool) (by simp only [Act.eval]; rfl) (by simp [hml]) (xo_cell HX3.out) (bools_one [!a]) (by unfold maxLen; omega) (by omega) (by have := BB3.out.size; omega) ?_; intro v4 w4 hown4 hgrow4; have BB4 := Lib.hid (BB3.out.grown hgrow4 (by have := BB3.out.size; omega) Hl3.out); have Hown4 := Lib.hid hown4; clear hown4 hgrow4))) | fail)
          all_goals
            go_wp2_with fail
            go_roundg (gk - 1)
            case measure => omega
            case rel => exact ⟨k + 1, (!a) :: t, by omega, by go_num, by unfold Ans; rw [show ((!a) :: t).length = m + 1 by simp [Hm.out]]; have := Hown4.out; simpa using this, by rw [Hn.out]; try simp, by simp [Hm.out]; omega, BB4.out⟩
      by_cases c2 : x = andB
      · skip
        have h1 : (x.toList == ([33] : List UInt8)) = false := by rw [c2]; decide +kernel
        have h2 : (x.toList == ([38, 38] : List UInt8)) = true := by rw [c2]; decide +kernel
        have h3 : (x.toList == ([124, 124] : List UInt8)) = false := by rw [c2]; decide +kernel
        have ht : tagB x = false := by rw [c2]; decide +kernel
        rw [ht] at HT
        rcases hst3 : st with _ | ⟨b2, _ | ⟨a, t⟩⟩
        · subst hst3
          have Hn := Lib.hid (show R = (false, false) by rw [He.out, Hev.out, hwd]; unfold stepE; rw [if_neg c1]; rw [if_pos c2])
          obtain ⟨pr, capr, rfl, hnc, hcm, hsome⟩ := own4_shape hown
          clear hwd c2 c1 ht hown hsome
          go_wp2_with fail
          refine (HT.out _).mono ?_
          rintro e w1 ⟨rfl, rfl⟩
          go_wp2_with fail
          go_ret2
          exact evaldP_of Hn.out hB
        · subst hst3
          have Hn := Lib.hid (show R = (false, false) by rw [He.out, Hev.out, hwd]; unfold stepE; rw [if_neg c1]; rw [if_pos c2])
          obtain ⟨pr, capr, rfl, hnc, hcm, hsome⟩ := own4_shape hown
          have hl1 : ([b2] : List Bool).length = 1 := rfl
          rw [hl1] at hnc ⊢
          clear hwd c2 c1 ht hown hsome
          go_wp2_with fail
          refine (HT.out _).mono ?_
          rintro e w1 ⟨rfl, rfl⟩
          go_wp2_with fail
          go_ret2
          exact evaldP_of Hn.out hB
        · subst hst3
          have Hn := Lib.hid (show evalS on [] parts = evalS on ((a && b2) :: t) (parts.drop (k + 1)) by rw [Hev.out, hwd]; unfold stepE; rw [if_neg c1]; rw [if_pos c2])
          obtain ⟨pr, capr, rfl, hnc, hcm, hsome⟩ := own4_shape hown
          obtain ⟨g, rfl, hg⟩ := hsome (by simp)
          obtain ⟨m, hm⟩ : ∃ m, t.length = m := ⟨_, rfl⟩
          have hown' : wr.ownsRow w.heap.size 4 1 (.slice (some ⟨g, 0, none⟩) (m + 2) capr) (m + 2) ((t.reverse ++ [a, b2]).map Value.bool) := by
            have := hown; unfold Ans at this; simpa [hm] using this
          rw [show (b2 :: a :: t).length = m + 2 by simp [hm]] at hnc hstk ⊢
          have hca := ans_cell (i := m) hown' (show (t.reverse ++ [a, b2])[m]? = some a by rw [← hm]; simp)
          have hcb := ans_cell (i := m + 1) hown' (show (t.reverse ++ [a, b2])[m + 1]? = some b2 by rw [← hm]; simp)
          have hgl := (hown'.lt g rfl).2
          have hm2 : m + 2 ≤ 1048576 := by omega
          have Hm := Lib.hid hm
          have Hown' := Lib.hid hown'
          have hwm := wrap_mid (m : Int) (by omega) (by omega)
          have hwm1 := wrap_mid ((m : Int) + 1) (by omega) (by omega)
          have hwm2 : IntKind.i64.wrap ((m : Int) + 2 - 1) = (m : Int) + 1 := by rw [show (m : Int) + 2 - 1 = (m : Int) + 1 by omega]; exact hwm1
          have hb0 : (0 : Int) ≤ (m : Int) := by omega
          have hb1 : (m : Int) ≤ (capr : Int) := by omega
          have hb2 : (m : Int) < (m : Int) + 2 := by omega
          have hb3 : (m : Int) + 1 < (m : Int) + 2 := by omega
          have hb4 : (0 : Int) ≤ (m : Int) + 1 := by omega
          have hb5 : ((m : Int) + 1).toNat = m + 1 := by omega
          clear hwd c2 c1 ht hown hown' hsome hm
          go_wp2_with fail
          refine (HT.out _).mono ?_
          rintro e w1 ⟨rfl, rfl⟩
          go_wp2_with fail
          have hml : t.length = m := Hm.out
          clear HT h1 h2 h3 Hp hc
          cases a with
          | true =>
            obtain ⟨e1, e2, e2x, e3, e3x⟩ := two_heap wr (b2)
            have o1 : (wr.alloc Em).drew.ownsRow w.heap.size 4 1 (.slice (some ⟨wr.heap.size, 0, none⟩) 0 0) 0 [] := own_empty e1 hBs
            have o2 : ((wr.alloc (Xo (b2))).alloc Em).drew.ownsRow w.heap.size 4 1 (.slice (some ⟨wr.heap.size + 1, 0, none⟩) 0 0) 0 [] := own_empty e2 (by omega)
            have o3 : ((wr.alloc Em).alloc (Xo (b2))).drew.ownsRow w.heap.size 4 1 (.slice (some ⟨wr.heap.size, 0, none⟩) 0 0) 0 [] := own_empty e3 hBs
            have b1 : Below wr.heap.size wr (wr.alloc Em).drew := ((Below.refl _ _).alloc (Nat.le_refl _) _).drew
            have b2x : Below wr.heap.size wr ((wr.alloc (Xo (b2))).alloc Em).drew := (((Below.refl _ _).alloc (Nat.le_refl _) _).alloc (by simp) _).drew
            have b3 : Below wr.heap.size wr ((wr.alloc Em).alloc (Xo (b2))).drew := (((Below.refl _ _).alloc (Nat.le_refl _) _).alloc (by simp) _).drew
            have hnew : ∀ W', Below wr.heap.size wr W' → ∀ j u, (t.reverse.map Value.bool)[j]? = some u → W'.cell? ((⟨g, 0, none⟩ : Addr).add j) = some u := by
              intro W' hW' j u hu
              have hj : j < m := by have := (List.getElem?_eq_some_iff.1 hu).1; simpa [hml] using this
              have hjl : j < (t.reverse.map Value.bool).length := by rw [List.length_map, List.length_reverse, hml]; exact hj
              have h2 := Hown'.out.cells (g := g) rfl j u (by rw [List.map_append, List.getElem?_append_left hjl]; exact hu)
              have ea := add_off g j
              rw [ea] at h2 ⊢
              rw [hW'.cell (p := ⟨g, j, none⟩) hgl]; exact h2
            have n1 := hnew _ b1
            have n2 := hnew _ b2x
            have n3 := hnew _ b3
            have hz4 : g < ((wr.alloc Em).drew).heap.size := by show g < (wr.alloc Em).heap.size; simp; omega
            have hbq : ∀ i u, wr.cell? ⟨g, i, none⟩ = some u → ∀ w3, ((wr.alloc Em).drew).grownBy w3 (some wr.heap.size) → w3.cell? ⟨g, i, none⟩ = some u := fun i u hu w3 hg => ((hg.cell_far ⟨g, i, none⟩ hz4 (by intro e; injection e with e; simp only at e; omega)).trans (b1.cell (p := ⟨g, i, none⟩) hgl)).trans hu
            have HC3 := Lib.hid (hbq _ _ hca)
            have HC4 := Lib.hid (hbq _ _ hcb)
            have O1 := Lib.hid o1
            have O2 := Lib.hid o2
            have O3 := Lib.hid o3
            have N1 := Lib.hid n1
            have N2 := Lib.hid n2
            have N3 := Lib.hid n3
            have B1 := Lib.hid ((hB.alloc hBs Em).drew)
            have B2 := Lib.hid (((hB.alloc hBs (Xo (b2))).alloc (by simp; omega) Em).drew)
            have B3 := Lib.hid (((hB.alloc hBs Em).alloc (by simp; omega) (Xo (b2))).drew)
            have E2x := Lib.hid e2x
            have E3x := Lib.hid e3x
            clear o1 o2 o3 n1 n2 n3 b1 b2x b3 e1 e2 e2x e3 e3x hnew hbq
            (first | (go_region_law (first
              | (refine step_append_at rfl (.tmp 52) (.tmp 56) 50 rfl w.heap.size 4 i0 (.bool false) 1 1 Tryd.underlying50 hi hz0 hz1 hz2 rfl (by decide) (.slice (some ⟨wr.heap.size, 0, none⟩) 0 0) 0 [] (by simp only [Act.eval]; rfl) O1.out ⟨g, 0, none⟩ m capr (t.reverse.map Value.bool) (by simp only [Act.eval]; rfl) (by simp [hml]) N1.out (bools_one t.reverse) (by unfold maxLen; omega) (by omega) (by simp; omega) ?_; intro v3 w3 hown3 hgrow3; have Hown3 := Lib.hid (show w3.ownsRow w.heap.size 4 1 v3 m (t.reverse.map Value.bool) by simpa using hown3); have Hl3 := Lib.hid (fun q (hq : v3.ownBlock = some q) => (hown3.lt q hq).1); have BB3 := Lib.hid (B1.out.grown hgrow3 (by have := B1.out.size; omega) (fun q hq => by cases hq; exact hBs)); have hc3 := HC3.out w3 hgrow3; have hc4 := HC4.out w3 hgrow3; clear hown3 hgrow3)
              | (refine step_append_at rfl (.tmp 52) (.tmp 56) 50 rfl w.heap.size 4 i0 (.bool false) 1 1 Tryd.underlying50 hi hz0 hz1 hz2 rfl (by decide) (.slice (some ⟨wr.heap.size, 0, none⟩) 0 0) 0 [] (by simp only [Act.eval]; rfl) O3.out ⟨g, 0, none⟩ m capr (t.reverse.map Value.bool) (by simp only [Act.eval]; rfl) (by simp [hml]) N3.out (bools_one t.reverse) (by unfold maxLen; omega) (by omega) (by simp; omega) ?_; intro v3 w3 hown3 hgrow3; have Hown3 := Lib.hid (show w3.ownsRow w.heap.size 4 1 v3 m (t.reverse.map Value.bool) by simpa using hown3); have Hl3 := Lib.hid (fun q (hq : v3.ownBlock = some q) => (hown3.lt q hq).1); have BB3 := Lib.hid (B3.out.grown hgrow3 (by have := B3.out.size; omega) (fun q hq => by cases hq; exact hBs)); have HX3 := Lib.hid (grown_cell (W := ((wr.alloc Em).alloc (Xo (b2))).drew) (B := wr.heap.size) (Bx := wr.heap.size + 1) E3x.out hgrow3 (Nat.succ_ne_self _)); clear hown3 hgrow3)
              | (refine step_append_at rfl (.tmp 52) (.tmp 56) 50 rfl w.heap.size 4 i0 (.bool false) 1 1 Tryd.underlying50 hi hz0 hz1 hz2 rfl (by decide) (.slice (some ⟨wr.heap.size + 1, 0, none⟩) 0 0) 0 [] (by simp only [Act.eval]; rfl) O2.out ⟨g, 0, none⟩ m capr (t.reverse.map Value.bool) (by simp only [Act.eval]; rfl) (by simp [hml]) N2.out (bools_one t.reverse) (by unfold maxLen; omega) (by omega) (by simp; omega) ?_; intro v3 w3 hown3 hgrow3; have Hown3 := Lib.hid (show w3.ownsRow w.heap.size 4 1 v3 m (t.reverse.map Value.bool) by simpa using hown3); have Hl3 := Lib.hid (fun q (hq : v3.ownBlock = some q) => (hown3.lt q hq).1); have BB3 := Lib.hid (B2.out.grown hgrow3 (by have := B2.out.size; omega) (fun q hq => by cases hq; exact Nat.le_succ_of_le hBs)); have HX3 := Lib.hid (grown_cell (W := ((wr.alloc (Xo (b2))).alloc Em).drew) (B := wr.heap.size + 1) (Bx := wr.heap.size) E2x.out hgrow3 (Nat.succ_ne_self _).symm); clear hown3 hgrow3)
              | (refine step_append_at rfl (.tmp 57) (.tmp 70) 50 rfl w.heap.size 4 i0 (.bool false) 1 1 Tryd.underlying50 hi hz0 hz1 hz2 rfl (by decide) v3 m (t.reverse.map Value.bool) (by simp only [Act.eval]; rfl) (Hown3.out.alloc _) ⟨w3.heap.size, 0, none⟩ 1 1 ([b2].map Value.bool) (by simp only [Act.eval]; rfl) (by simp [hml]) (cell_one_new _ _ _) (bools_one [b2]) (by unfold maxLen; omega) (by omega) (by have := BB3.out.size; simp; omega) ?_; intro v4 w4 hown4 hgrow4; have BB4 := Lib.hid ((BB3.out.alloc (by have := BB3.out.size; omega) _).grown hgrow4 (by have := BB3.out.size; simp; omega) Hl3.out); have Hown4 := Lib.hid hown4; clear hown4 hgrow4)
              | (refine step_append_at rfl (.tmp 57) (.tmp 70) 50 rfl w.heap.size 4 i0 (.bool false) 1 1 Tryd.underlying50 hi hz0 hz1 hz2 rfl (by decide) v3 m (t.reverse.map Value.bool) (by simp only [Act.eval]; rfl) Hown3.out ⟨wr.heap.size + 1, 0, none⟩ 1 1 ([b2].map Value.bool) (by simp only [Act.eval]; rfl) (by simp [hml]) (xo_cell HX3.out) (bools_one [b2]) (by unfold maxLen; omega) (by omega) (by have := BB3.out.size; omega) ?_; intro v4 w4 hown4 hgrow4; have BB4 := Lib.hid (BB3.out.grown hgrow4 (by have := BB3.out.size; omega) Hl3.out); have Hown4 := Lib.hid hown4; clear hown4 hgrow4)
              | (refine step_append_at rfl (.tmp 57) (.tmp 70) 50 rfl w.heap.size 4 i0 (.bool false) 1 1 Tryd.underlying50 hi hz0 hz1 hz2 rfl (by decide) v3 m (t.reverse.map Value.bool) (by simp only [Act.eval]; rfl) Hown3.out ⟨wr.heap.size, 0, none⟩ 1 1 ([b2].map Value.bool) (by simp only [Act.eval]; rfl) (by simp [hml]) (xo_cell HX3.out) (bools_one [b2]) (by unfold maxLen; omega) (by omega) (by have := BB3.out.size; omega) ?_; intro v4 w4 hown4 hgrow4; have BB4 := Lib.hid (BB3.out.grown hgrow4 (by have := BB3.out.size; omega) Hl3.out); have Hown4 := Lib.hid hown4; clear hown4 hgrow4))) | fail)
            all_goals
              go_wp2_with fail
              go_roundg (gk - 1)
              case measure => omega
              case rel => exact ⟨k + 1, (b2) :: t, by omega, by go_num, by unfold Ans; rw [show ((b2) :: t).length = m + 1 by simp [Hm.out]]; have := Hown4.out; simpa using this, by rw [Hn.out]; try simp, by simp [Hm.out]; omega, BB4.out⟩
          | false =>
            obtain ⟨e1, e2, e2x, e3, e3x⟩ := two_heap wr (false)
            have o1 : (wr.alloc Em).drew.ownsRow w.heap.size 4 1 (.slice (some ⟨wr.heap.size, 0, none⟩) 0 0) 0 [] := own_empty e1 hBs
            have o2 : ((wr.alloc (Xo (false))).alloc Em).drew.ownsRow w.heap.size 4 1 (.slice (some ⟨wr.heap.size + 1, 0, none⟩) 0 0) 0 [] := own_empty e2 (by omega)
            have o3 : ((wr.alloc Em).alloc (Xo (false))).drew.ownsRow w.heap.size 4 1 (.slice (some ⟨wr.heap.size, 0, none⟩) 0 0) 0 [] := own_empty e3 hBs
            have b1 : Below wr.heap.size wr (wr.alloc Em).drew := ((Below.refl _ _).alloc (Nat.le_refl _) _).drew
            have b2x : Below wr.heap.size wr ((wr.alloc (Xo (false))).alloc Em).drew := (((Below.refl _ _).alloc (Nat.le_refl _) _).alloc (by simp) _).drew
            have b3 : Below wr.heap.size wr ((wr.alloc Em).alloc (Xo (false))).drew := (((Below.refl _ _).alloc (Nat.le_refl _) _).alloc (by simp) _).drew
            have hnew : ∀ W', Below wr.heap.size wr W' → ∀ j u, (t.reverse.map Value.bool)[j]? = some u → W'.cell? ((⟨g, 0, none⟩ : Addr).add j) = some u := by
              intro W' hW' j u hu
              have hj : j < m := by have := (List.getElem?_eq_some_iff.1 hu).1; simpa [hml] using this
              have hjl : j < (t.reverse.map Value.bool).length := by rw [List.length_map, List.length_reverse, hml]; exact hj
              have h2 := Hown'.out.cells (g := g) rfl j u (by rw [List.map_append, List.getElem?_append_left hjl]; exact hu)
              have ea := add_off g j
              rw [ea] at h2 ⊢
              rw [hW'.cell (p := ⟨g, j, none⟩) hgl]; exact h2
            have n1 := hnew _ b1
            have n2 := hnew _ b2x
            have n3 := hnew _ b3
            have hz4 : g < ((wr.alloc Em).drew).heap.size := by show g < (wr.alloc Em).heap.size; simp; omega
            have hbq : ∀ i u, wr.cell? ⟨g, i, none⟩ = some u → ∀ w3, ((wr.alloc Em).drew).grownBy w3 (some wr.heap.size) → w3.cell? ⟨g, i, none⟩ = some u := fun i u hu w3 hg => ((hg.cell_far ⟨g, i, none⟩ hz4 (by intro e; injection e with e; simp only at e; omega)).trans (b1.cell (p := ⟨g, i, none⟩) hgl)).trans hu
            have HC3 := Lib.hid (hbq _ _ hca)
            have HC4 := Lib.hid (hbq _ _ hcb)
            have O1 := Lib.hid o1
            have O2 := Lib.hid o2
            have O3 := Lib.hid o3
            have N1 := Lib.hid n1
            have N2 := Lib.hid n2
            have N3 := Lib.hid n3
            have B1 := Lib.hid ((hB.alloc hBs Em).drew)
            have B2 := Lib.hid (((hB.alloc hBs (Xo (false))).alloc (by simp; omega) Em).drew)
            have B3 := Lib.hid (((hB.alloc hBs Em).alloc (by simp; omega) (Xo (false))).drew)
            have E2x := Lib.hid e2x
            have E3x := Lib.hid e3x
            clear o1 o2 o3 n1 n2 n3 b1 b2x b3 e1 e2 e2x e3 e3x hnew hbq
            (first | (go_region_law (first
              | (refine step_append_at rfl (.tmp 52) (.tmp 56) 50 rfl w.heap.size 4 i0 (.bool false) 1 1 Tryd.underlying50 hi hz0 hz1 hz2 rfl (by decide) (.slice (some ⟨wr.heap.size, 0, none⟩) 0 0) 0 [] (by simp only [Act.eval]; rfl) O1.out ⟨g, 0, none⟩ m capr (t.reverse.map Value.bool) (by simp only [Act.eval]; rfl) (by simp [hml]) N1.out (bools_one t.reverse) (by unfold maxLen; omega) (by omega) (by simp; omega) ?_; intro v3 w3 hown3 hgrow3; have Hown3 := Lib.hid (show w3.ownsRow w.heap.size 4 1 v3 m (t.reverse.map Value.bool) by simpa using hown3); have Hl3 := Lib.hid (fun q (hq : v3.ownBlock = some q) => (hown3.lt q hq).1); have BB3 := Lib.hid (B1.out.grown hgrow3 (by have := B1.out.size; omega) (fun q hq => by cases hq; exact hBs)); have hc3 := HC3.out w3 hgrow3; have hc4 := HC4.out w3 hgrow3; clear hown3 hgrow3)
              | (refine step_append_at rfl (.tmp 52) (.tmp 56) 50 rfl w.heap.size 4 i0 (.bool false) 1 1 Tryd.underlying50 hi hz0 hz1 hz2 rfl (by decide) (.slice (some ⟨wr.heap.size, 0, none⟩) 0 0) 0 [] (by simp only [Act.eval]; rfl) O3.out ⟨g, 0, none⟩ m capr (t.reverse.map Value.bool) (by simp only [Act.eval]; rfl) (by simp [hml]) N3.out (bools_one t.reverse) (by unfold maxLen; omega) (by omega) (by simp; omega) ?_; intro v3 w3 hown3 hgrow3; have Hown3 := Lib.hid (show w3.ownsRow w.heap.size 4 1 v3 m (t.reverse.map Value.bool) by simpa using hown3); have Hl3 := Lib.hid (fun q (hq : v3.ownBlock = some q) => (hown3.lt q hq).1); have BB3 := Lib.hid (B3.out.grown hgrow3 (by have := B3.out.size; omega) (fun q hq => by cases hq; exact hBs)); have HX3 := Lib.hid (grown_cell (W := ((wr.alloc Em).alloc (Xo (false))).drew) (B := wr.heap.size) (Bx := wr.heap.size + 1) E3x.out hgrow3 (Nat.succ_ne_self _)); clear hown3 hgrow3)
              | (refine step_append_at rfl (.tmp 52) (.tmp 56) 50 rfl w.heap.size 4 i0 (.bool false) 1 1 Tryd.underlying50 hi hz0 hz1 hz2 rfl (by decide) (.slice (some ⟨wr.heap.size + 1, 0, none⟩) 0 0) 0 [] (by simp only [Act.eval]; rfl) O2.out ⟨g, 0, none⟩ m capr (t.reverse.map Value.bool) (by simp only [Act.eval]; rfl) (by simp [hml]) N2.out (bools_one t.reverse) (by unfold maxLen; omega) (by omega) (by simp; omega) ?_; intro v3 w3 hown3 hgrow3; have Hown3 := Lib.hid (show w3.ownsRow w.heap.size 4 1 v3 m (t.reverse.map Value.bool) by simpa using hown3); have Hl3 := Lib.hid (fun q (hq : v3.ownBlock = some q) => (hown3.lt q hq).1); have BB3 := Lib.hid (B2.out.grown hgrow3 (by have := B2.out.size; omega) (fun q hq => by cases hq; exact Nat.le_succ_of_le hBs)); have HX3 := Lib.hid (grown_cell (W := ((wr.alloc (Xo (false))).alloc Em).drew) (B := wr.heap.size + 1) (Bx := wr.heap.size) E2x.out hgrow3 (Nat.succ_ne_self _).symm); clear hown3 hgrow3)
              | (refine step_append_at rfl (.tmp 57) (.tmp 70) 50 rfl w.heap.size 4 i0 (.bool false) 1 1 Tryd.underlying50 hi hz0 hz1 hz2 rfl (by decide) v3 m (t.reverse.map Value.bool) (by simp only [Act.eval]; rfl) (Hown3.out.alloc _) ⟨w3.heap.size, 0, none⟩ 1 1 ([false].map Value.bool) (by simp only [Act.eval]; rfl) (by simp [hml]) (cell_one_new _ _ _) (bools_one [false]) (by unfold maxLen; omega) (by omega) (by have := BB3.out.size; simp; omega) ?_; intro v4 w4 hown4 hgrow4; have BB4 := Lib.hid ((BB3.out.alloc (by have := BB3.out.size; omega) _).grown hgrow4 (by have := BB3.out.size; simp; omega) Hl3.out); have Hown4 := Lib.hid hown4; clear hown4 hgrow4)
              | (refine step_append_at rfl (.tmp 57) (.tmp 70) 50 rfl w.heap.size 4 i0 (.bool false) 1 1 Tryd.underlying50 hi hz0 hz1 hz2 rfl (by decide) v3 m (t.reverse.map Value.bool) (by simp only [Act.eval]; rfl) Hown3.out ⟨wr.heap.size + 1, 0, none⟩ 1 1 ([false].map Value.bool) (by simp only [Act.eval]; rfl) (by simp [hml]) (xo_cell HX3.out) (bools_one [false]) (by unfold maxLen; omega) (by omega) (by have := BB3.out.size; omega) ?_; intro v4 w4 hown4 hgrow4; have BB4 := Lib.hid (BB3.out.grown hgrow4 (by have := BB3.out.size; omega) Hl3.out); have Hown4 := Lib.hid hown4; clear hown4 hgrow4)
              | (refine step_append_at rfl (.tmp 57) (.tmp 70) 50 rfl w.heap.size 4 i0 (.bool false) 1 1 Tryd.underlying50 hi hz0 hz1 hz2 rfl (by decide) v3 m (t.reverse.map Value.bool) (by simp only [Act.eval]; rfl) Hown3.out ⟨wr.heap.size, 0, none⟩ 1 1 ([false].map Value.bool) (by simp only [Act.eval]; rfl) (by simp [hml]) (xo_cell HX3.out) (bools_one [false]) (by unfold maxLen; omega) (by omega) (by have := BB3.out.size; omega) ?_; intro v4 w4 hown4 hgrow4; have BB4 := Lib.hid (BB3.out.grown hgrow4 (by have := BB3.out.size; omega) Hl3.out); have Hown4 := Lib.hid hown4; clear hown4 hgrow4))) | fail)
            all_goals
              go_wp2_with fail
              go_roundg (gk - 1)
              case measure => omega
              case rel => exact ⟨k + 1, (false) :: t, by omega, by go_num, by unfold Ans; rw [show ((false) :: t).length = m + 1 by simp [Hm.out]]; have := Hown4.out; simpa using this, by rw [Hn.out]; try simp, by simp [Hm.out]; omega, BB4.out⟩
      by_cases c3 : x = orB
      · skip
        have h1 : (x.toList == ([33] : List UInt8)) = false := by rw [c3]; decide +kernel
        have h2 : (x.toList == ([38, 38] : List UInt8)) = false := by rw [c3]; decide +kernel
        have h3 : (x.toList == ([124, 124] : List UInt8)) = true := by rw [c3]; decide +kernel
        have ht : tagB x = false := by rw [c3]; decide +kernel
        rw [ht] at HT
        rcases hst3 : st with _ | ⟨b2, _ | ⟨a, t⟩⟩
        · subst hst3
          have Hn := Lib.hid (show R = (false, false) by rw [He.out, Hev.out, hwd]; unfold stepE; rw [if_neg c1]; rw [if_neg c2]; rw [if_pos c3])
          obtain ⟨pr, capr, rfl, hnc, hcm, hsome⟩ := own4_shape hown
          clear hwd c3 c1 c2 ht hown hsome
          go_wp2_with fail
          refine (HT.out _).mono ?_
          rintro e w1 ⟨rfl, rfl⟩
          go_wp2_with fail
          go_ret2
          exact evaldP_of Hn.out hB
        · subst hst3
          have Hn := Lib.hid (show R = (false, false) by rw [He.out, Hev.out, hwd]; unfold stepE; rw [if_neg c1]; rw [if_neg c2]; rw [if_pos c3])
          obtain ⟨pr, capr, rfl, hnc, hcm, hsome⟩ := own4_shape hown
          have hl1 : ([b2] : List Bool).length = 1 := rfl
          rw [hl1] at hnc ⊢
          clear hwd c3 c1 c2 ht hown hsome
          go_wp2_with fail
          refine (HT.out _).mono ?_
          rintro e w1 ⟨rfl, rfl⟩
          go_wp2_with fail
          go_ret2
          exact evaldP_of Hn.out hB
        · subst hst3
          have Hn := Lib.hid (show evalS on [] parts = evalS on ((a || b2) :: t) (parts.drop (k + 1)) by rw [Hev.out, hwd]; unfold stepE; rw [if_neg c1]; rw [if_neg c2]; rw [if_pos c3])
          obtain ⟨pr, capr, rfl, hnc, hcm, hsome⟩ := own4_shape hown
          obtain ⟨g, rfl, hg⟩ := hsome (by simp)
          obtain ⟨m, hm⟩ : ∃ m, t.length = m := ⟨_, rfl⟩
          have hown' : wr.ownsRow w.heap.size 4 1 (.slice (some ⟨g, 0, none⟩) (m + 2) capr) (m + 2) ((t.reverse ++ [a, b2]).map Value.bool) := by
            have := hown; unfold Ans at this; simpa [hm] using this
          rw [show (b2 :: a :: t).length = m + 2 by simp [hm]] at hnc hstk ⊢
          have hca := ans_cell (i := m) hown' (show (t.reverse ++ [a, b2])[m]? = some a by rw [← hm]; simp)
          have hcb := ans_cell (i := m + 1) hown' (show (t.reverse ++ [a, b2])[m + 1]? = some b2 by rw [← hm]; simp)
          have hgl := (hown'.lt g rfl).2
          have hm2 : m + 2 ≤ 1048576 := by omega
          have Hm := Lib.hid hm
          have Hown' := Lib.hid hown'
          have hwm := wrap_mid (m : Int) (by omega) (by omega)
          have hwm1 := wrap_mid ((m : Int) + 1) (by omega) (by omega)
          have hwm2 : IntKind.i64.wrap ((m : Int) + 2 - 1) = (m : Int) + 1 := by rw [show (m : Int) + 2 - 1 = (m : Int) + 1 by omega]; exact hwm1
          have hb0 : (0 : Int) ≤ (m : Int) := by omega
          have hb1 : (m : Int) ≤ (capr : Int) := by omega
          have hb2 : (m : Int) < (m : Int) + 2 := by omega
          have hb3 : (m : Int) + 1 < (m : Int) + 2 := by omega
          have hb4 : (0 : Int) ≤ (m : Int) + 1 := by omega
          have hb5 : ((m : Int) + 1).toNat = m + 1 := by omega
          clear hwd c3 c1 c2 ht hown hown' hsome hm
          go_wp2_with fail
          refine (HT.out _).mono ?_
          rintro e w1 ⟨rfl, rfl⟩
          go_wp2_with fail
          have hml : t.length = m := Hm.out
          clear HT h1 h2 h3 Hp hc
          cases a with
          | true =>
            obtain ⟨e1, e2, e2x, e3, e3x⟩ := two_heap wr (true)
            have o1 : (wr.alloc Em).drew.ownsRow w.heap.size 4 1 (.slice (some ⟨wr.heap.size, 0, none⟩) 0 0) 0 [] := own_empty e1 hBs
            have o2 : ((wr.alloc (Xo (true))).alloc Em).drew.ownsRow w.heap.size 4 1 (.slice (some ⟨wr.heap.size + 1, 0, none⟩) 0 0) 0 [] := own_empty e2 (by omega)
            have o3 : ((wr.alloc Em).alloc (Xo (true))).drew.ownsRow w.heap.size 4 1 (.slice (some ⟨wr.heap.size, 0, none⟩) 0 0) 0 [] := own_empty e3 hBs
            have b1 : Below wr.heap.size wr (wr.alloc Em).drew := ((Below.refl _ _).alloc (Nat.le_refl _) _).drew
            have b2x : Below wr.heap.size wr ((wr.alloc (Xo (true))).alloc Em).drew := (((Below.refl _ _).alloc (Nat.le_refl _) _).alloc (by simp) _).drew
            have b3 : Below wr.heap.size wr ((wr.alloc Em).alloc (Xo (true))).drew := (((Below.refl _ _).alloc (Nat.le_refl _) _).alloc (by simp) _).drew
            have hnew : ∀ W', Below wr.heap.size wr W' → ∀ j u, (t.reverse.map Value.bool)[j]? = some u → W'.cell? ((⟨g, 0, none⟩ : Addr).add j) = some u := by
              intro W' hW' j u hu
              have hj : j < m := by have := (List.getElem?_eq_some_iff.1 hu).1; simpa [hml] using this
              have hjl : j < (t.reverse.map Value.bool).length := by rw [List.length_map, List.length_reverse, hml]; exact hj
              have h2 := Hown'.out.cells (g := g) rfl j u (by rw [List.map_append, List.getElem?_append_left hjl]; exact hu)
              have ea := add_off g j
              rw [ea] at h2 ⊢
              rw [hW'.cell (p := ⟨g, j, none⟩) hgl]; exact h2
            have n1 := hnew _ b1
            have n2 := hnew _ b2x
            have n3 := hnew _ b3
            have hz4 : g < ((wr.alloc Em).drew).heap.size := by show g < (wr.alloc Em).heap.size; simp; omega
            have hbq : ∀ i u, wr.cell? ⟨g, i, none⟩ = some u → ∀ w3, ((wr.alloc Em).drew).grownBy w3 (some wr.heap.size) → w3.cell? ⟨g, i, none⟩ = some u := fun i u hu w3 hg => ((hg.cell_far ⟨g, i, none⟩ hz4 (by intro e; injection e with e; simp only at e; omega)).trans (b1.cell (p := ⟨g, i, none⟩) hgl)).trans hu
            have HC3 := Lib.hid (hbq _ _ hca)
            have HC4 := Lib.hid (hbq _ _ hcb)
            have O1 := Lib.hid o1
            have O2 := Lib.hid o2
            have O3 := Lib.hid o3
            have N1 := Lib.hid n1
            have N2 := Lib.hid n2
            have N3 := Lib.hid n3
            have B1 := Lib.hid ((hB.alloc hBs Em).drew)
            have B2 := Lib.hid (((hB.alloc hBs (Xo (true))).alloc (by simp; omega) Em).drew)
            have B3 := Lib.hid (((hB.alloc hBs Em).alloc (by simp; omega) (Xo (true))).drew)
            have E2x := Lib.hid e2x
            have E3x := Lib.hid e3x
            clear o1 o2 o3 n1 n2 n3 b1 b2x b3 e1 e2 e2x e3 e3x hnew hbq
            (first | (go_region_law (first
              | (refine step_append_at rfl (.tmp 78) (.tmp 82) 50 rfl w.heap.size 4 i0 (.bool false) 1 1 Tryd.underlying50 hi hz0 hz1 hz2 rfl (by decide) (.slice (some ⟨wr.heap.size, 0, none⟩) 0 0) 0 [] (by simp only [Act.eval]; rfl) O1.out ⟨g, 0, none⟩ m capr (t.reverse.map Value.bool) (by simp only [Act.eval]; rfl) (by simp [hml]) N1.out (bools_one t.reverse) (by unfold maxLen; omega) (by omega) (by simp; omega) ?_; intro v3 w3 hown3 hgrow3; have Hown3 := Lib.hid (show w3.ownsRow w.heap.size 4 1 v3 m (t.reverse.map Value.bool) by simpa using hown3); have Hl3 := Lib.hid (fun q (hq : v3.ownBlock = some q) => (hown3.lt q hq).1); have BB3 := Lib.hid (B1.out.grown hgrow3 (by have := B1.out.size; omega) (fun q hq => by cases hq; exact hBs)); have hc3 := HC3.out w3 hgrow3; have hc4 := HC4.out w3 hgrow3; clear hown3 hgrow3)
              | (refine step_append_at rfl (.tmp 78) (.tmp 82) 50 rfl w.heap.size 4 i0 (.bool false) 1 1 Tryd.underlying50 hi hz0 hz1 hz2 rfl (by decide) (.slice (some ⟨wr.heap.size, 0, none⟩) 0 0) 0 [] (by simp only [Act.eval]; rfl) O3.out ⟨g, 0, none⟩ m capr (t.reverse.map Value.bool) (by simp only [Act.eval]; rfl) (by simp [hml]) N3.out (bools_one t.reverse) (by unfold maxLen; omega) (by omega) (by simp; omega) ?_; intro v3 w3 hown3 hgrow3; have Hown3 := Lib.hid (show w3.ownsRow w.heap.size 4 1 v3 m (t.reverse.map Value.bool) by simpa using hown3); have Hl3 := Lib.hid (fun q (hq : v3.ownBlock = some q) => (hown3.lt q hq).1); have BB3 := Lib.hid (B3.out.grown hgrow3 (by have := B3.out.size; omega) (fun q hq => by cases hq; exact hBs)); have HX3 := Lib.hid (grown_cell (W := ((wr.alloc Em).alloc (Xo (true))).drew) (B := wr.heap.size) (Bx := wr.heap.size + 1) E3x.out hgrow3 (Nat.succ_ne_self _)); clear hown3 hgrow3)
              | (refine step_append_at rfl (.tmp 78) (.tmp 82) 50 rfl w.heap.size 4 i0 (.bool false) 1 1 Tryd.underlying50 hi hz0 hz1 hz2 rfl (by decide) (.slice (some ⟨wr.heap.size + 1, 0, none⟩) 0 0) 0 [] (by simp only [Act.eval]; rfl) O2.out ⟨g, 0, none⟩ m capr (t.reverse.map Value.bool) (by simp only [Act.eval]; rfl) (by simp [hml]) N2.out (bools_one t.reverse) (by unfold maxLen; omega) (by omega) (by simp; omega) ?_; intro v3 w3 hown3 hgrow3; have Hown3 := Lib.hid (show w3.ownsRow w.heap.size 4 1 v3 m (t.reverse.map Value.bool) by simpa using hown3); have Hl3 := Lib.hid (fun q (hq : v3.ownBlock = some q) => (hown3.lt q hq).1); have BB3 := Lib.hid (B2.out.grown hgrow3 (by have := B2.out.size; omega) (fun q hq => by cases hq; exact Nat.le_succ_of_le hBs)); have HX3 := Lib.hid (grown_cell (W := ((wr.alloc (Xo (true))).alloc Em).drew) (B := wr.heap.size + 1) (Bx := wr.heap.size) E2x.out hgrow3 (Nat.succ_ne_self _).symm); clear hown3 hgrow3)
              | (refine step_append_at rfl (.tmp 83) (.tmp 96) 50 rfl w.heap.size 4 i0 (.bool false) 1 1 Tryd.underlying50 hi hz0 hz1 hz2 rfl (by decide) v3 m (t.reverse.map Value.bool) (by simp only [Act.eval]; rfl) (Hown3.out.alloc _) ⟨w3.heap.size, 0, none⟩ 1 1 ([true].map Value.bool) (by simp only [Act.eval]; rfl) (by simp [hml]) (cell_one_new _ _ _) (bools_one [true]) (by unfold maxLen; omega) (by omega) (by have := BB3.out.size; simp; omega) ?_; intro v4 w4 hown4 hgrow4; have BB4 := Lib.hid ((BB3.out.alloc (by have := BB3.out.size; omega) _).grown hgrow4 (by have := BB3.out.size; simp; omega) Hl3.out); have Hown4 := Lib.hid hown4; clear hown4 hgrow4)
              | (refine step_append_at rfl (.tmp 83) (.tmp 96) 50 rfl w.heap.size 4 i0 (.bool false) 1 1 Tryd.underlying50 hi hz0 hz1 hz2 rfl (by decide) v3 m (t.reverse.map Value.bool) (by simp only [Act.eval]; rfl) Hown3.out ⟨wr.heap.size + 1, 0, none⟩ 1 1 ([true].map Value.bool) (by simp only [Act.eval]; rfl) (by simp [hml]) (xo_cell HX3.out) (bools_one [true]) (by unfold maxLen; omega) (by omega) (by have := BB3.out.size; omega) ?_; intro v4 w4 hown4 hgrow4; have BB4 := Lib.hid (BB3.out.grown hgrow4 (by have := BB3.out.size; omega) Hl3.out); have Hown4 := Lib.hid hown4; clear hown4 hgrow4)
              | (refine step_append_at rfl (.tmp 83) (.tmp 96) 50 rfl w.heap.size 4 i0 (.bool false) 1 1 Tryd.underlying50 hi hz0 hz1 hz2 rfl (by decide) v3 m (t.reverse.map Value.bool) (by simp only [Act.eval]; rfl) Hown3.out ⟨wr.heap.size, 0, none⟩ 1 1 ([true].map Value.bool) (by simp only [Act.eval]; rfl) (by simp [hml]) (xo_cell HX3.out) (bools_one [true]) (by unfold maxLen; omega) (by omega) (by have := BB3.out.size; omega) ?_; intro v4 w4 hown4 hgrow4; have BB4 := Lib.hid (BB3.out.grown hgrow4 (by have := BB3.out.size; omega) Hl3.out); have Hown4 := Lib.hid hown4; clear hown4 hgrow4))) | fail)
            all_goals
              go_wp2_with fail
              go_roundg (gk - 1)
              case measure => omega
              case rel => exact ⟨k + 1, (true) :: t, by omega, by go_num, by unfold Ans; rw [show ((true) :: t).length = m + 1 by simp [Hm.out]]; have := Hown4.out; simpa using this, by rw [Hn.out]; try simp, by simp [Hm.out]; omega, BB4.out⟩
          | false =>
            obtain ⟨e1, e2, e2x, e3, e3x⟩ := two_heap wr (b2)
            have o1 : (wr.alloc Em).drew.ownsRow w.heap.size 4 1 (.slice (some ⟨wr.heap.size, 0, none⟩) 0 0) 0 [] := own_empty e1 hBs
            have o2 : ((wr.alloc (Xo (b2))).alloc Em).drew.ownsRow w.heap.size 4 1 (.slice (some ⟨wr.heap.size + 1, 0, none⟩) 0 0) 0 [] := own_empty e2 (by omega)
            have o3 : ((wr.alloc Em).alloc (Xo (b2))).drew.ownsRow w.heap.size 4 1 (.slice (some ⟨wr.heap.size, 0, none⟩) 0 0) 0 [] := own_empty e3 hBs
            have b1 : Below wr.heap.size wr (wr.alloc Em).drew := ((Below.refl _ _).alloc (Nat.le_refl _) _).drew
            have b2x : Below wr.heap.size wr ((wr.alloc (Xo (b2))).alloc Em).drew := (((Below.refl _ _).alloc (Nat.le_refl _) _).alloc (by simp) _).drew
            have b3 : Below wr.heap.size wr ((wr.alloc Em).alloc (Xo (b2))).drew := (((Below.refl _ _).alloc (Nat.le_refl _) _).alloc (by simp) _).drew
            have hnew : ∀ W', Below wr.heap.size wr W' → ∀ j u, (t.reverse.map Value.bool)[j]? = some u → W'.cell? ((⟨g, 0, none⟩ : Addr).add j) = some u := by
              intro W' hW' j u hu
              have hj : j < m := by have := (List.getElem?_eq_some_iff.1 hu).1; simpa [hml] using this
              have hjl : j < (t.reverse.map Value.bool).length := by rw [List.length_map, List.length_reverse, hml]; exact hj
              have h2 := Hown'.out.cells (g := g) rfl j u (by rw [List.map_append, List.getElem?_append_left hjl]; exact hu)
              have ea := add_off g j
              rw [ea] at h2 ⊢
              rw [hW'.cell (p := ⟨g, j, none⟩) hgl]; exact h2
            have n1 := hnew _ b1
            have n2 := hnew _ b2x
            have n3 := hnew _ b3
            have hz4 : g < ((wr.alloc Em).drew).heap.size := by show g < (wr.alloc Em).heap.size; simp; omega
            have hbq : ∀ i u, wr.cell? ⟨g, i, none⟩ = some u → ∀ w3, ((wr.alloc Em).drew).grownBy w3 (some wr.heap.size) → w3.cell? ⟨g, i, none⟩ = some u := fun i u hu w3 hg => ((hg.cell_far ⟨g, i, none⟩ hz4 (by intro e; injection e with e; simp only at e; omega)).trans (b1.cell (p := ⟨g, i, none⟩) hgl)).trans hu
            have HC3 := Lib.hid (hbq _ _ hca)
            have HC4 := Lib.hid (hbq _ _ hcb)
            have O1 := Lib.hid o1
            have O2 := Lib.hid o2
            have O3 := Lib.hid o3
            have N1 := Lib.hid n1
            have N2 := Lib.hid n2
            have N3 := Lib.hid n3
            have B1 := Lib.hid ((hB.alloc hBs Em).drew)
            have B2 := Lib.hid (((hB.alloc hBs (Xo (b2))).alloc (by simp; omega) Em).drew)
            have B3 := Lib.hid (((hB.alloc hBs Em).alloc (by simp; omega) (Xo (b2))).drew)
            have E2x := Lib.hid e2x
            have E3x := Lib.hid e3x
            clear o1 o2 o3 n1 n2 n3 b1 b2x b3 e1 e2 e2x e3 e3x hnew hbq
            (first | (go_region_law (first
              | (refine step_append_at rfl (.tmp 78) (.tmp 82) 50 rfl w.heap.size 4 i0 (.bool false) 1 1 Tryd.underlying50 hi hz0 hz1 hz2 rfl (by decide) (.slice (some ⟨wr.heap.size, 0, none⟩) 0 0) 0 [] (by simp only [Act.eval]; rfl) O1.out ⟨g, 0, none⟩ m capr (t.reverse.map Value.bool) (by simp only [Act.eval]; rfl) (by simp [hml]) N1.out (bools_one t.reverse) (by unfold maxLen; omega) (by omega) (by simp; omega) ?_; intro v3 w3 hown3 hgrow3; have Hown3 := Lib.hid (show w3.ownsRow w.heap.size 4 1 v3 m (t.reverse.map Value.bool) by simpa using hown3); have Hl3 := Lib.hid (fun q (hq : v3.ownBlock = some q) => (hown3.lt q hq).1); have BB3 := Lib.hid (B1.out.grown hgrow3 (by have := B1.out.size; omega) (fun q hq => by cases hq; exact hBs)); have hc3 := HC3.out w3 hgrow3; have hc4 := HC4.out w3 hgrow3; clear hown3 hgrow3)
              | (refine step_append_at rfl (.tmp 78) (.tmp 82) 50 rfl w.heap.size 4 i0 (.bool false) 1 1 Tryd.underlying50 hi hz0 hz1 hz2 rfl (by decide) (.slice (some ⟨wr.heap.size, 0, none⟩) 0 0) 0 [] (by simp only [Act.eval]; rfl) O3.out ⟨g, 0, none⟩ m capr (t.reverse.map Value.bool) (by simp only [Act.eval]; rfl) (by simp [hml]) N3.out (bools_one t.reverse) (by unfold maxLen; omega) (by omega) (by simp; omega) ?_; intro v3 w3 hown3 hgrow3; have Hown3 := Lib.hid (show w3.ownsRow w.heap.size 4 1 v3 m (t.reverse.map Value.bool) by simpa using hown3); have Hl3 := Lib.hid (fun q (hq : v3.ownBlock = some q) => (hown3.lt q hq).1); have BB3 := Lib.hid (B3.out.grown hgrow3 (by have := B3.out.size; omega) (fun q hq => by cases hq; exact hBs)); have HX3 := Lib.hid (grown_cell (W := ((wr.alloc Em).alloc (Xo (b2))).drew) (B := wr.heap.size) (Bx := wr.heap.size + 1) E3x.out hgrow3 (Nat.succ_ne_self _)); clear hown3 hgrow3)
              | (refine step_append_at rfl (.tmp 78) (.tmp 82) 50 rfl w.heap.size 4 i0 (.bool false) 1 1 Tryd.underlying50 hi hz0 hz1 hz2 rfl (by decide) (.slice (some ⟨wr.heap.size + 1, 0, none⟩) 0 0) 0 [] (by simp only [Act.eval]; rfl) O2.out ⟨g, 0, none⟩ m capr (t.reverse.map Value.bool) (by simp only [Act.eval]; rfl) (by simp [hml]) N2.out (bools_one t.reverse) (by unfold maxLen; omega) (by omega) (by simp; omega) ?_; intro v3 w3 hown3 hgrow3; have Hown3 := Lib.hid (show w3.ownsRow w.heap.size 4 1 v3 m (t.reverse.map Value.bool) by simpa using hown3); have Hl3 := Lib.hid (fun q (hq : v3.ownBlock = some q) => (hown3.lt q hq).1); have BB3 := Lib.hid (B2.out.grown hgrow3 (by have := B2.out.size; omega) (fun q hq => by cases hq; exact Nat.le_succ_of_le hBs)); have HX3 := Lib.hid (grown_cell (W := ((wr.alloc (Xo (b2))).alloc Em).drew) (B := wr.heap.size + 1) (Bx := wr.heap.size) E2x.out hgrow3 (Nat.succ_ne_self _).symm); clear hown3 hgrow3)
              | (refine step_append_at rfl (.tmp 83) (.tmp 96) 50 rfl w.heap.size 4 i0 (.bool false) 1 1 Tryd.underlying50 hi hz0 hz1 hz2 rfl (by decide) v3 m (t.reverse.map Value.bool) (by simp only [Act.eval]; rfl) (Hown3.out.alloc _) ⟨w3.heap.size, 0, none⟩ 1 1 ([b2].map Value.bool) (by simp only [Act.eval]; rfl) (by simp [hml]) (cell_one_new _ _ _) (bools_one [b2]) (by unfold maxLen; omega) (by omega) (by have := BB3.out.size; simp; omega) ?_; intro v4 w4 hown4 hgrow4; have BB4 := Lib.hid ((BB3.out.alloc (by have := BB3.out.size; omega) _).grown hgrow4 (by have := BB3.out.size; simp; omega) Hl3.out); have Hown4 := Lib.hid hown4; clear hown4 hgrow4)
              | (refine step_append_at rfl (.tmp 83) (.tmp 96) 50 rfl w.heap.size 4 i0 (.bool false) 1 1 Tryd.underlying50 hi hz0 hz1 hz2 rfl (by decide) v3 m (t.reverse.map Value.bool) (by simp only [Act.eval]; rfl) Hown3.out ⟨wr.heap.size + 1, 0, none⟩ 1 1 ([b2].map Value.bool) (by simp only [Act.eval]; rfl) (by simp [hml]) (xo_cell HX3.out) (bools_one [b2]) (by unfold maxLen; omega) (by omega) (by have := BB3.out.size; omega) ?_; intro v4 w4 hown4 hgrow4; have BB4 := Lib.hid (BB3.out.grown hgrow4 (by have := BB3.out.size; omega) Hl3.out); have Hown4 := Lib.hid hown4; clear hown4 hgrow4)
              | (refine step_append_at rfl (.tmp 83) (.tmp 96) 50 rfl w.heap.size 4 i0 (.bool false) 1 1 Tryd.underlying50 hi hz0 hz1 hz2 rfl (by decide) v3 m (t.reverse.map Value.bool) (by simp only [Act.eval]; rfl) Hown3.out ⟨wr.heap.size, 0, none⟩ 1 1 ([b2].map Value.bool) (by simp only [Act.eval]; rfl) (by simp [hml]) (xo_cell HX3.out) (bools_one [b2]) (by unfold maxLen; omega) (by omega) (by have := BB3.out.size; omega) ?_; intro v4 w4 hown4 hgrow4; have BB4 := Lib.hid (BB3.out.grown hgrow4 (by have := BB3.out.size; omega) Hl3.out); have Hown4 := Lib.hid hown4; clear hown4 hgrow4))) | fail)
            all_goals
              go_wp2_with fail
              go_roundg (gk - 1)
              case measure => omega
              case rel => exact ⟨k + 1, (b2) :: t, by omega, by go_num, by unfold Ans; rw [show ((b2) :: t).length = m + 1 by simp [Hm.out]]; have := Hown4.out; simpa using this, by rw [Hn.out]; try simp, by simp [Hm.out]; omega, BB4.out⟩
      have h1 : (x.toList == ([33] : List UInt8)) = false := by rw [lit_is]; exact decide_eq_false c1
      have h2 : (x.toList == ([38, 38] : List UInt8)) = false := by rw [lit_is]; exact decide_eq_false c2
      have h3 : (x.toList == ([124, 124] : List UInt8)) = false := by rw [lit_is]; exact decide_eq_false c3
      obtain ⟨pr, capr, rfl, hnc, hcm, hsome⟩ := own4_shape hown
      have Hown := Lib.hid hown
      cases ht : tagB x with
      | false =>
        have Hn := Lib.hid (show R = (false, false) by rw [He.out, Hev.out, hwd]; unfold stepE; rw [if_neg c1, if_neg c2, if_neg c3, ht]; rfl)
        rw [ht] at HT
        clear hwd c1 c2 c3 ht hown hsome
        generalize st.length = n at *
        go_wp2_with fail
        refine (HT.out _).mono ?_
        rintro e w1 ⟨rfl, rfl⟩
        go_wp2_with fail
        go_ret2
        exact evaldP_of Hn.out hB
      | true =>
        have Hn := Lib.hid (show evalS on [] parts = evalS on (inB on x :: st) (parts.drop (k + 1)) by rw [Hev.out, hwd]; unfold stepE; rw [if_neg c1, if_neg c2, if_neg c3, ht]; rfl)
        rw [ht] at HT
        have HC := Lib.hid (in_any u on x wr (Hu.out.below hB))
        have hn2 : st.length ≤ 1048576 := by omega
        clear hwd c1 c2 c3 ht hown hsome
        generalize inB on x = z at *
        have hxs : ((z :: st).reverse).map Value.bool = st.reverse.map Value.bool ++ [.bool z] := by simp
        have Hxs := Lib.hid hxs
        have hown2 : wr.ownsRow w.heap.size 4 1 (.slice pr st.length capr) st.length (st.reverse.map Value.bool) := Hown.out
        have Hown2 := Lib.hid hown2
        clear hxs hown2 Hown
        obtain ⟨n, hn⟩ : ∃ n, st.length = n := ⟨_, rfl⟩
        rw [hn] at Hown2 hn2 hnc hstk ⊢
        have Hnn := Lib.hid hn
        clear hn
        go_wp2_with fail
        refine (HT.out _).mono ?_
        rintro e w1 ⟨rfl, rfl⟩
        go_wp2_with fail
        refine HC.out.mono ?_
        rintro e w1 ⟨rfl, rfl⟩
        go_wp2_with (at_builtin; go_must (refine wpList_append_own _ rfl (.tmp 20) (.tmp 24) 50 rfl w.heap.size 4 i0 (.bool false) 1 1 Tryd.underlying50 hi hz0 hz1 hz2 rfl (by decide) _ _ _ rfl (Hown2.out.alloc _) ⟨wr.heap.size, 0, none⟩ 1 1 [.bool z] rfl rfl (cell_one_new _ _ _) (by intro u hu; simp at hu; subst hu; rfl) (by unfold maxLen; omega) (by omega) (by simp; omega) ?_); intro v3 w3 hown3 hgrow3 _)
        have hB3 := (hB.alloc hBs (Obj.cells #[Value.bool z] 4)).grown hgrow3 (by simp; omega) (fun q hq => (Hown2.out.lt q hq).1)
        go_roundg (gk - 1)
        case measure => omega
        case rel => exact ⟨k + 1, z :: st, by omega, by go_num, by unfold Ans; rw [Hxs.out, show (z :: st).length = n + 1 by simp [Hnn.out]]; exact hown3, Hn.out, by simp [Hnn.out]; omega, hB3⟩
    · have hkl : parts.drop k = [] := List.drop_eq_nil_of_le (by have := Hlen.out; omega)
      have hR : R = match (some st : Option (List Bool)) with | some [a] => (a, true) | _ => (false, false) := by rw [He.out, Hev.out, hkl]; rfl
      obtain ⟨pr, capr, rfl, hnc, hcm, hsome⟩ := own4_shape hown
      clear hkl
      rcases hst3 : st with _ | ⟨a, _ | ⟨b2, t⟩⟩
      · subst hst3
        have Hn := Lib.hid (show R = (false, false) from hR)
        clear hR hown hsome
        go_wp2_with fail
        go_ret2
        exact evaldP_of Hn.out hB
      · subst hst3
        have Hn := Lib.hid (show R = (a, true) from hR)
        obtain ⟨g, rfl, hg⟩ := hsome (by simp)
        have hown' : wr.ownsRow w.heap.size 4 1 (.slice (some ⟨g, 0, none⟩) 1 capr) 1 (([a] : List Bool).map Value.bool) := hown
        have hca := ans_cell (i := 0) hown' rfl
        rw [show ([a] : List Bool).length = 1 from rfl] at hnc ⊢
        clear hR hown hown' hsome
        go_wp2_with fail
        go_ret2
        exact evaldP_of Hn.out hB
      · subst hst3
        have Hn := Lib.hid (show R = (false, false) from hR)
        have hl2 : (a :: b2 :: t).length = t.length + 2 := by simp
        have hne : ((((t.length + 2 : Nat)) : Int) == 1) = false := by rw [beq_eq_false_iff_ne]; omega
        rw [hl2] at hnc ⊢
        clear hR hown hsome hl2
        generalize t.length = m at *
        go_wp2_with fail
        go_ret2
        exact evaldP_of Hn.out hB
end Go.Proofs.YtgfcangnfdndpaaDoor
