/- Walks: a text's tokens and comments, by the document. -/
import Derived.Test.YtejogobhnbjpdaaGreatDoorRh
import Derived.Test.YtejogobhnbjpdaaGreatDoorKl
import Derived.Great.BuildSlice
import Derived.Laws.CopyOwn
namespace Go.Proofs.YtejogobhnbjpdaaGreatDoor
set_option linter.unusedVariables false
set_option linter.unusedSimpArgs false
open Go.ChangeShapes Go.WideShapes Go.ChangeAt Go.RowKit

/-- A block of three cells, made and written. -/
structure BoxT (w : World) (B : Nat) (x y z : Value) (u : World) : Prop where
  k : u.heap[B]? = some (.cells #[x, y, z] 67 (0, 0))
  b : Below w.heap.size w u
theorem boxT_made (w : World) (x y z : Value) : BoxT w w.heap.size x y z (w.alloc (.cells #[x, y, z] 67)) := ⟨heap_alloc_new w _, (Below.refl _ w).alloc (Nat.le_refl _) _⟩
theorem boxT_abs {ops : Array Oper} {rest : List Oper} {Q : Exit → Act → World → Prop} {a : Act} {w w' : World} {B : Nat} {x y z : Value} (hb : BoxT w B x y z w') (h : ∀ u, BoxT w B x y z u → wpList Tryz.prog ops Q rest a u) : wpList Tryz.prog ops Q rest a w' := h _ hb
/-- Two rows of tokens in blocks of their own. -/
structure Rl (base : Nat) (T M : List Tk) (v u : Value) (w : World) : Prop where
  hb : base ≤ w.heap.size
  ov : w.ownsRow base 35 3 v T.length (LF tkV T)
  ou : w.ownsRow base 35 3 u M.length (LF tkV M)
  ap : Apart v u
theorem Rl.below {base : Nat} {T M : List Tk} {v u : Value} {w w' : World} (h : Rl base T M v u w) (hB : Below w.heap.size w w') : Rl base T M v u w' :=
  ⟨Nat.le_trans h.hb hB.size, gen_own_below h.ov hB, gen_own_below h.ou hB, h.ap⟩
theorem Rl.growV {base : Nat} {T T' M : List Tk} {v v' u : Value} {w w' : World} (h : Rl base T M v u w) (ho : w'.ownsRow base 35 3 v' T'.length (LF tkV T')) (hg : w.grownBy w' v.ownBlock) (ha : v'.ownBlock = v.ownBlock ∨ ∃ g, v'.ownBlock = some g ∧ w.heap.size ≤ g) :
    Rl base T' M v' u w' ∧ Below base w w' := by
  have hB : Below base w w' := (Below.refl _ _).grown hg h.hb (fun k hk => (h.ov.lt k hk).1)
  refine ⟨⟨Nat.le_trans h.hb hg.size, ho, own_far h.ou hg (fun g hgm e => h.ap g e hgm), fun g hv hm => ?_⟩, hB⟩
  rcases ha with e | ⟨g', e, hle⟩
  · exact h.ap g (e.symm.trans hv) hm
  · rw [e] at hv
    have h5 := (own_lt h.ou hm).2
    simp only [Option.some.injEq] at hv
    omega
theorem Rl.growU {base : Nat} {T M M' : List Tk} {v u u' : Value} {w w' : World} (h : Rl base T M v u w) (ho : w'.ownsRow base 35 3 u' M'.length (LF tkV M')) (hg : w.grownBy w' u.ownBlock) (ha : u'.ownBlock = u.ownBlock ∨ ∃ g, u'.ownBlock = some g ∧ w.heap.size ≤ g) :
    Rl base T M' v u' w' ∧ Below base w w' := by
  have hB : Below base w w' := (Below.refl _ _).grown hg h.hb (fun k hk => (h.ou.lt k hk).1)
  refine ⟨⟨Nat.le_trans h.hb hg.size, own_far h.ov hg (fun g hgm e => h.ap g hgm e), ho, fun g hv hm => ?_⟩, hB⟩
  rcases ha with e | ⟨g', e, hle⟩
  · exact h.ap g hv (e.symm.trans hm)
  · rw [e] at hm
    have h5 := (own_lt h.ov hv).2
    simp only [Option.some.injEq] at hm
    omega
theorem box_new2 (w : World) (a b : Obj) : ((w.alloc a).alloc b).heap[w.heap.size + 1]? = some b := by
  have h := heap_alloc_new (w.alloc a) b
  have e : (w.alloc a).heap.size = w.heap.size + 1 := by simp
  rw [e] at h
  exact h
theorem own_new {b : Option Nat} {w w' : World} (ha : b = some w.heap.size) (hs : w'.heap.size ≤ w.heap.size) : ∃ g, b = some g ∧ w'.heap.size ≤ g := ⟨_, ha, hs⟩
section
variable {t e : TypeId} {n by_ : Nat} {X : Type} {fl : X → List Value}
theorem wpList_append_gen2 (E : Elt t e n by_ fl) {w : World} {ops : Array Oper} {rest : List Oper} {o : Oper} {a : Act} {Q : Exit → Act → World → Prop} (hgd : o.guard = none) (s x : Operand)
    (ho : o.op = .call { callee := .builtin .append, args := #[s, x], argTypes := #[t, t] }) (hty : o.type = t) (base : Nat) (v : Value) (xs : List X) (hs : a.eval s = v) (hown : w.ownsRow base e n v xs.length (LF fl xs))
    (u : Value) (l : List X) (hu : LAt n fl w u l) (hx : a.eval x = u) (hb : (xs.length + l.length) * by_ ≤ 140737488355328) (hm : xs.length + l.length ≤ maxLen) (hbase : base ≤ w.heap.size)
    (h : ∀ v' w', w'.ownsRow base e n v' (xs ++ l).length (LF fl (xs ++ l)) → w.grownBy w' v.ownBlock → (v'.ownBlock = v.ownBlock ∨ v'.ownBlock = some w.heap.size) → wpList Tryz.prog ops Q rest (a.put o.dst v') w') : wpList Tryz.prog ops Q (o :: rest) a w := by
  obtain ⟨v', w', h1, h2, h3, h4⟩ := run_append_gen2 E w base v _ _ u l hown hu hb hm hbase
  refine wpList_plain hgd fun K hK => ?_
  unfold Oper.wp execOp
  simp only [ho, hty, resolve, invoke, builtin, Sem.run_bind, Sem.run_pure, Result.andThen_ok, List.map_toArray, List.map_cons, List.map_nil, hs, hx]
  rw [h1]
  exact hK _ _ (h v' w' (by rw [List.length_append, LF_app]; exact h2) h3 h4)
end
theorem grown_pre {w w1 w2 : World} {row : Option Nat} (hB : Below w.heap.size w w1) (hg : w1.grownBy w2 row) : w.grownBy w2 row :=
  ⟨hg.os.trans hB.os, hg.tape.trans hB.tape, hg.output.trans hB.output, Nat.le_trans hB.size hg.size, fun k hk hne => (hg.block k (Nat.lt_of_lt_of_le hk hB.size) hne).trans (hB.block k hk)⟩
theorem own_pre {b r : Option Nat} {w w1 : World} (hB : Below w.heap.size w w1) (h : b = r ∨ b = some w1.heap.size) : b = r ∨ ∃ g, b = some g ∧ w.heap.size ≤ g := by
  rcases h with h | h
  · exact .inl h
  · exact .inr ⟨_, h, hB.size⟩
set_option maxRecDepth 100000 in
set_option maxHeartbeats 2000000 in
theorem refFeed_any (base : Nat) (v : Value) (l : List Tk) (at_ : Nat) (w : World) (ho : w.ownsRow base 35 3 v l.length (LF tkV l)) (hb : base ≤ w.heap.size) (hl : l.length ≤ 16777216) :
    Calls Tryz.prog 30 #[v, .int .i64 at_] w fun e w' => ∃ v', e = .returned v' ∧ w'.ownsRow base 35 3 v' (feedL l at_).length (LF tkV (feedL l at_)) ∧ w.grownBy w' v.ownBlock ∧ (v'.ownBlock = v.ownBlock ∨ ∃ g, v'.ownBlock = some g ∧ w.heap.size ≤ g) := by
  have Hb := Lib.hid hb
  obtain ⟨p, c, rfl⟩ := own_slice ho
  have hcs : l = [] ∨ ∃ T' t, l = T' ++ [t] := by
    rcases List.eq_nil_or_concat l with h | ⟨T', t, h⟩
    · exact .inl h
    · exact .inr ⟨T', t, by rw [h, List.concat_eq_append]⟩
  rcases hcs with rfl | ⟨T', ⟨k, x, at2⟩, rfl⟩
  · have HO := Lib.hid (show w.ownsRow base 35 3 (.slice p 0 c) 0 (LF tkV []) from ho)
    show Calls Tryz.prog 30 #[.slice p 0 c, .int .i64 at_] w _
    clear ho hb hl
    go_enter Tryz.func30, Tryz.ntmps30
    go_wp2_with fail
    go_ret
    exact ⟨_, rfl, HO.out, World.grownBy.refl _ _, .inl rfl⟩
  · have hv := LAt.own (fun y _ => tkV_len y) ho
    obtain ⟨p2, c2, he, hp⟩ := hv.shape
    injection he with he1 he2 he3
    subst he1; subst he3
    obtain ⟨g, off, rfl⟩ := hp (by simp)
    obtain ⟨hg, e0, e1, e2⟩ := hv.cells (i := T'.length) (k := k) (x := x) (p := at2) (by simp)
    have HO := Lib.hid ho
    have HC := Lib.hid (fun w1 => feeds_any k at2 x w1)
    have HE := Lib.hid (show feedL (T' ++ [(k, x, at2)]) at_ = if endsB (k, x, at2) = true then (T' ++ [(k, x, at2)]) ++ [(6, ⟨#[]⟩, at_)] else T' ++ [(k, x, at2)] by unfold feedL; rw [List.getLast?_concat])
    have hln : (T' ++ [(k, x, at2)]).length = T'.length + 1 := by simp
    rw [hln] at hl ⊢
    clear ho hv hp he2 hb
    obtain ⟨m, hm⟩ : ∃ m, m = T'.length := ⟨_, rfl⟩
    rw [← hm] at hl e0 e1 e2 ⊢
    have HLn := Lib.hid (hln.trans (by rw [hm]) : (T' ++ [(k, x, at2)]).length = m + 1)
    clear hln hm
    generalize T' ++ [(k, x, at2)] = L at *
    have hm1 : (m : Int) + 1 - 1 = m := by omega
    have h0 : decide (0 < m + 1) = true := decide_eq_true (by omega)
    have h0I : (0 : Int) < (m : Int) + 1 := by omega
    cases he : endsB (k, x, at2) with
    | true =>
      rw [he] at HC
      have HE2 := Lib.hid (show feedL L at_ = L ++ [(6, ⟨#[]⟩, at_)] by rw [HE.out, if_pos he])
      clear he
      go_enter Tryz.func30, Tryz.ntmps30
      go_wp2_with fail
      refine (HC.out _).mono ?_
      rintro e1 w1 ⟨rfl, hB1⟩
      have HB := Lib.hid hB1
      have HO1 := Lib.hid (gen_own_below HO.out (hB1.trans ((Below.refl w1.heap.size w1).alloc (Nat.le_refl _) (.cells #[.int .i64 6, .string ⟨#[]⟩, .int .i64 at_] 35) |>.mono hB1.size)))
      rw [HLn.out] at HO1
      have HBx := Lib.hid ((Below.refl w1.heap.size w1).alloc (Nat.le_refl _) (.cells #[.int .i64 6, .string ⟨#[]⟩, .int .i64 at_] 35))
      clear hB1
      go_wp2_with (first | (at_builtin; go_must (refine wpList_append_gen2 eltT rfl (.tmp 17) (.tmp 20) rfl rfl base _ L rfl (by rw [HLn.out]; exact HO1.out) _ [(6, ⟨#[]⟩, at_)] (LAt.block rfl rfl (heap_alloc_new _ _)) rfl (by rw [HLn.out]; simp only [List.length_cons, List.length_nil]; omega) (by unfold maxLen; rw [HLn.out]; simp only [List.length_cons, List.length_nil]; omega) (Nat.le_trans Hb.out (Nat.le_trans HB.out.size HBx.out.size)) ?_); intro va wa hoa hga haa; have Hoa := Lib.hid hoa; have Hga := Lib.hid hga; have Haa := Lib.hid haa; clear hoa hga haa))
      go_ret
      refine ⟨va, rfl, ?_, ?_, ?_⟩
      · rw [HE2.out]; exact Hoa.out
      · exact grown_pre (HB.out.trans (HBx.out.mono HB.out.size)) Hga.out
      · exact own_pre (HB.out.trans (HBx.out.mono HB.out.size)) Haa.out
    | false =>
      rw [he] at HC
      have HE2 := Lib.hid (show feedL L at_ = L by rw [HE.out, if_neg (by rw [he]; decide)])
      clear he
      go_enter Tryz.func30, Tryz.ntmps30
      go_wp2_with fail
      refine (HC.out _).mono ?_
      rintro e1 w1 ⟨rfl, hB1⟩
      have HB := Lib.hid hB1
      clear hB1
      go_wp2_with fail
      go_ret
      exact ⟨_, rfl, by rw [HE2.out, HLn.out]; have := gen_own_below HO.out HB.out; rw [HLn.out] at this; exact this, grown_pre HB.out (World.grownBy.refl _ _), .inl rfl⟩

/-- The rows, and a box beside them. -/
structure Rb (base B : Nat) (x y z : Value) (T M : List Tk) (v u : Value) (w : World) : Prop where
  r : Rl base T M v u w
  k : w.heap[B]? = some (.cells #[x, y, z] 67 (0, 0))
  nv : v.ownBlock ≠ some B
  nu : u.ownBlock ≠ some B
theorem Rb.below {base B : Nat} {x y z : Value} {T M : List Tk} {v u : Value} {w w' : World} (h : Rb base B x y z T M v u w) (hB : Below w.heap.size w w') : Rb base B x y z T M v u w' :=
  ⟨h.r.below hB, (hB.block _ (lt_of_block h.k)).trans h.k, h.nv, h.nu⟩
theorem Rb.make {base : Nat} {x y z : Value} {T M : List Tk} {v u : Value} {w w' : World} (h : Rl base T M v u w) (hb : BoxT w w.heap.size x y z w') : Rb base w.heap.size x y z T M v u w' :=
  ⟨h.below hb.b, hb.k, fun e => by have := (own_lt h.ov e).2; omega, fun e => by have := (own_lt h.ou e).2; omega⟩
theorem Rb.growV {base B : Nat} {x y z : Value} {T T' M : List Tk} {v v' u : Value} {w w' : World} (h : Rb base B x y z T M v u w) (ho : w'.ownsRow base 35 3 v' T'.length (LF tkV T')) (hg : w.grownBy w' v.ownBlock) (ha : v'.ownBlock = v.ownBlock ∨ ∃ g, v'.ownBlock = some g ∧ w.heap.size ≤ g) :
    Rb base B x y z T' M v' u w' ∧ Below base w w' := by
  obtain ⟨h1, h2⟩ := h.r.growV ho hg ha
  refine ⟨⟨h1, (hg.block B (lt_of_block h.k) (fun e => h.nv e.symm)).trans h.k, ?_, h.nu⟩, h2⟩
  have := lt_of_block h.k
  rcases ha with e | ⟨g, e, hle⟩
  · rw [e]; exact h.nv
  · rw [e]; intro e2; injection e2 with e2; omega
theorem Rb.growU {base B : Nat} {x y z : Value} {T M M' : List Tk} {v u u' : Value} {w w' : World} (h : Rb base B x y z T M v u w) (ho : w'.ownsRow base 35 3 u' M'.length (LF tkV M')) (hg : w.grownBy w' u.ownBlock) (ha : u'.ownBlock = u.ownBlock ∨ ∃ g, u'.ownBlock = some g ∧ w.heap.size ≤ g) :
    Rb base B x y z T M' v u' w' ∧ Below base w w' := by
  obtain ⟨h1, h2⟩ := h.r.growU ho hg ha
  refine ⟨⟨h1, (hg.block B (lt_of_block h.k) (fun e => h.nu e.symm)).trans h.k, h.nv, ?_⟩, h2⟩
  have := lt_of_block h.k
  rcases ha with e | ⟨g, e, hle⟩
  · rw [e]; exact h.nu
  · rw [e]; intro e2; injection e2 with e2; omega
structure RbE (base B : Nat) (x y z : Value) (T M : List Tk) (v0 u v : Value) (w : World) : Prop where
  e : v = v0
  b : Rb base B x y z T M v0 u w
structure RbW (base B : Nat) (x y z : Value) (T M : List Tk) (u v : Value) (w : World) : Prop where
  b : Rb base B x y z T M v u w
theorem RbE.st1 (base B : Nat) (x y z : Value) (T M : List Tk) (v0 u : Value) : K3.St1 (RbE base B x y z T M v0 u) := fun v w1 w2 h hB => ⟨h.e, h.b.below hB⟩
theorem RbW.st1 (base B : Nat) (x y z : Value) (T M : List Tk) (u : Value) : K3.St1 (RbW base B x y z T M u) := fun v w1 w2 h hB => ⟨h.b.below hB⟩
theorem skip_sk3 (b : ByteArray) : skipV b = (skN b : Nat) := by unfold skipV skN; split <;> rfl
set_option maxRecDepth 100000 in
set_option maxHeartbeats 16000000 in
theorem refLex_any (s : ByteArray) (w : World) (hs : s.size ≤ 1048576) :
    Calls Tryz.prog 11 #[.string s] w fun e w' => ∃ v u, e = .returned (.tuple #[v, u]) ∧ LAt 3 tkV w' v (lexL s) ∧ LAt 3 tkV w' u (lexM s) ∧ Below w.heap.size w w' := by
  have HSK := Lib.hid (fun w1 => refSkip_any s w1 (by omega))
  rw [skip_sk3] at HSK
  have hk := skN_le s
  obtain ⟨k, hk0⟩ : ∃ k, k = skN s := ⟨_, rfl⟩
  rw [← hk0] at HSK hk
  have HL : Hid (∀ q T M, lexT s k [] [] = lexT s q T M → lexL s = (lexT s q T M).1 ∧ lexM s = (lexT s q T M).2) := Lib.hid (fun q T M h => by unfold lexL lexM; rw [← hk0, h]; exact ⟨rfl, rfl⟩)
  clear hk0
  generalize lexL s = LL at *
  generalize lexM s = MM at *
  go_enter Tryz.func11, Tryz.ntmps11
  go_wp2_with fail
  refine (HSK.out _).mono ?_
  rintro e1 w1 ⟨rfl, rfl⟩
  go_wp2_with fail
  go_loopg [4, 5, 6] (s.size - k) (fun g ov nv av wr => ∃ (q : Nat) (T M : List Tk), q + g = s.size ∧ av = .int .i64 q ∧ Hid (Rl w.heap.size T M ov nv wr) ∧ Hid (lexT s k [] [] = lexT s q T M) ∧ T.length ≤ q ∧ M.length ≤ q ∧ Hid (Below w.heap.size w wr))
  case atStart => exact ⟨k, [], [], by omega, rfl, Lib.hid ⟨Nat.le_refl _, ⟨by simp [LF], .inl ⟨rfl, rfl⟩⟩, ⟨by simp [LF], .inl ⟨rfl, rfl⟩⟩, fun g h => by cases h⟩, Lib.hid rfl, Nat.zero_le _, Nat.zero_le _, Lib.hid (Below.refl _ _)⟩
  case round =>
    obtain ⟨q, T, M, hqg, rfl, HR, HE, hTq, hMq, HB⟩ := hrel
    obtain ⟨pv, cv, rfl⟩ := own_slice HR.out.ov
    obtain ⟨pu, cu, rfl⟩ := own_slice HR.out.ou
    by_cases hq : q < s.size
    · have hqI : (q : Int) < (s.size : Int) := by omega
      have hte := thing_ends hq
      have hsp := (th_spec hq).2.2.2
      cases hth : thing s q with
      | bad f =>
        have hf := hte.1 f hth
        have HE2 := Lib.hid (HL.out q T M HE.out)
        rw [lexT_bad hq hth T M] at HE2
        clear hte hsp
        have HN : Hid (∀ w1, Calls Tryz.prog 29 #[.string s, .int .i64 q] w1 fun e' w' => e' = .returned (.agg #[.int .i64 (7), .int .i64 (0), .int .i64 ((f : Nat))]) ∧ Below w1.heap.size w1 w') := Lib.hid (fun w1 => (next26_any s q w1 hs hq).mono (fun e2 w2 hh => ⟨by rw [hh.1, hth]; rfl, hh.2⟩))
        clear hth
        go_wp2_with fail
        refine (HN.out _).mono ?_
        rintro e1 w1 ⟨rfl, hB1⟩
        have HR1 := Lib.hid (HR.out.below hB1)
        have HB1 := Lib.hid (HB.out.trans (hB1.mono HB.out.size))
        clear hB1
        have hbx := boxT_made w1 (.int .i64 (7)) (.int .i64 (0)) (.int .i64 ((f : Nat)))
        have HX := Lib.hid (Rb.make HR1.out hbx)
        have HBb := Lib.hid (HB1.out.trans (hbx.b.mono HB1.out.size))
        have c0 := block_cell hbx.k 0
        have c1 := block_cell hbx.k 1
        have c2 := block_cell hbx.k 2
        clear hbx
        go_wp2_with (first | (at_builtin; go_must (refine wpList_append_gen2 eltT rfl (.tmp 35) (.tmp 39) rfl rfl w.heap.size _ T rfl (HX.out.below ((Below.refl _ _).alloc (Nat.le_refl _) _)).r.ov _ [(7, ⟨#[]⟩, f)] (LAt.block rfl rfl (box_new2 _ _ _)) rfl (by simp only [List.length_cons, List.length_nil]; omega) (by unfold maxLen; simp only [List.length_cons, List.length_nil]; omega) ((HX.out.below ((Below.refl _ _).alloc (Nat.le_refl _) _)).r.hb) ?_); intro va wa hoa hga haa; have hgr := (HX.out.below ((Below.refl _ _).alloc (Nat.le_refl _) _)).growV hoa hga (haa.imp id (fun h => ⟨_, h, Nat.le_refl _⟩)); have HG := Lib.hid hgr.1; have HGB := Lib.hid ((HBb.out.alloc HBb.out.size _).trans hgr.2);  clear hoa hga haa hgr))
        go_ret2
        exact ⟨_, _, rfl, by rw [HE2.out.1]; exact LAt.own (fun y _ => tkV_len y) HG.out.r.ov, by rw [HE2.out.2]; exact LAt.own (fun y _ => tkV_len y) HG.out.r.ou, HGB.out⟩
      | lf =>
        clear hte hsp
        have HE2 := Lib.hid (HE.out.trans (show lexT s q T M = lexT s (q + 1) (feedL T q) M from by
          have := lexT_step hq (show (thing s q).ok = true by rw [hth]; rfl) T M
          rw [hth] at this
          exact this))
        have HN : Hid (∀ w1, Calls Tryz.prog 29 #[.string s, .int .i64 q] w1 fun e' w' => e' = .returned (.agg #[.int .i64 (-2), .int .i64 (1), .int .i64 (0)]) ∧ Below w1.heap.size w1 w') := Lib.hid (fun w1 => (next26_any s q w1 hs hq).mono (fun e2 w2 hh => ⟨by rw [hh.1, hth]; rfl, hh.2⟩))
        clear hth
        go_wp2_with fail
        refine (HN.out _).mono ?_
        rintro e1 w1 ⟨rfl, hB1⟩
        have HR1 := Lib.hid (HR.out.below hB1)
        have HB1 := Lib.hid (HB.out.trans (hB1.mono HB.out.size))
        clear hB1
        have hfl := (feedL_len T q).2
        have hbx := boxT_made w1 (.int .i64 (-2)) (.int .i64 (1)) (.int .i64 (0))
        have HX := Lib.hid (Rb.make HR1.out hbx)
        have HBb := Lib.hid (HB1.out.trans (hbx.b.mono HB1.out.size))
        have c0 := block_cell hbx.k 0
        have c1 := block_cell hbx.k 1
        have c2 := block_cell hbx.k 2
        clear hbx

        go_wp2_with fail
        refine (refFeed_any w.heap.size _ T q _ HX.out.r.ov HX.out.r.hb (by omega)).mono ?_
        rintro e1 w2 ⟨v', rfl, hoa, hga, haa⟩
        have hgr := HX.out.growV hoa hga haa
        have HG := Lib.hid hgr.1
        have HGB := Lib.hid (HBb.out.trans hgr.2)
        have d1 := block_cell hgr.1.k 1
        clear hoa hga haa hgr
        go_wp2_with fail
        go_roundg (s.size - (q + 1))
        case measure => omega
        case rel => exact ⟨q + 1, feedL T q, M, by omega, by go_num, Lib.hid HG.out.r, HE2, by omega, by omega, HGB⟩
      | blank =>
        clear hte hsp
        have HE2 := Lib.hid (HE.out.trans (show lexT s q T M = lexT s (q + 1) T M from by
          have := lexT_step hq (show (thing s q).ok = true by rw [hth]; rfl) T M
          rw [hth] at this
          exact this))
        have HN : Hid (∀ w1, Calls Tryz.prog 29 #[.string s, .int .i64 q] w1 fun e' w' => e' = .returned (.agg #[.int .i64 (-1), .int .i64 (1), .int .i64 (0)]) ∧ Below w1.heap.size w1 w') := Lib.hid (fun w1 => (next26_any s q w1 hs hq).mono (fun e2 w2 hh => ⟨by rw [hh.1, hth]; rfl, hh.2⟩))
        clear hth
        go_wp2_with fail
        refine (HN.out _).mono ?_
        rintro e1 w1 ⟨rfl, hB1⟩
        have HR1 := Lib.hid (HR.out.below hB1)
        have HB1 := Lib.hid (HB.out.trans (hB1.mono HB.out.size))
        clear hB1
        have hbx := boxT_made w1 (.int .i64 (-1)) (.int .i64 (1)) (.int .i64 (0))
        have HX := Lib.hid (Rb.make HR1.out hbx)
        have HBb := Lib.hid (HB1.out.trans (hbx.b.mono HB1.out.size))
        have c0 := block_cell hbx.k 0
        have c1 := block_cell hbx.k 1
        have c2 := block_cell hbx.k 2
        clear hbx
        go_wp2_with fail
        go_roundg (s.size - (q + 1))
        case measure => omega
        case rel => exact ⟨q + 1, T, M, by omega, by go_num, Lib.hid HX.out.r, HE2, by omega, by omega, HBb⟩
      | note e =>
        have he : q < e ∧ e ≤ s.size := by
          have := hte.2 (by rw [hth]; rfl)
          rw [hth] at this
          exact ⟨this.1, this.2.1⟩
        have hsum : (q : Int) + ((e - q : Nat) : Int) = e := by omega
        have hqe : (q : Int) ≤ (e : Int) := by omega
        have heI : (e : Int) ≤ (s.size : Int) := by omega
        have hxs : (s.extract q e).size ≤ 1048576 := by rw [ByteArray.size_extract]; omega
        cases hlf : hasLF s q e with
        | true =>
          have HE2 := Lib.hid (HE.out.trans (show lexT s q T M = lexT s e (feedL T q) (M ++ [(0, s.extract q e, q)]) from by
            have := lexT_step hq (show (thing s q).ok = true by rw [hth]; rfl) T M
            rw [hth] at this
            rw [this]
            simp only [lNext, mNext, Th.en, hlf]
            rfl))
          clear hte hsp
          have HN : Hid (∀ w1, Calls Tryz.prog 29 #[.string s, .int .i64 q] w1 fun e' w' => e' = .returned (.agg #[.int .i64 (-4), .int .i64 ((e - q : Nat)), .int .i64 (0)]) ∧ Below w1.heap.size w1 w') := Lib.hid (fun w1 => (next26_any s q w1 hs hq).mono (fun e2 w2 hh => ⟨by rw [hh.1, hth]; simp only [nextV, hlf]; rfl, hh.2⟩))
          clear hth hlf
          go_wp2_with fail
          refine (HN.out _).mono ?_
          rintro e1 w1 ⟨rfl, hB1⟩
          have HR1 := Lib.hid (HR.out.below hB1)
          have HB1 := Lib.hid (HB.out.trans (hB1.mono HB.out.size))
          clear hB1
          have hbx := boxT_made w1 (.int .i64 (-4)) (.int .i64 ((e - q : Nat))) (.int .i64 (0))
          have HX := Lib.hid (Rb.make HR1.out hbx)
          have HBb := Lib.hid (HB1.out.trans (hbx.b.mono HB1.out.size))
          have c0 := block_cell hbx.k 0
          have c1 := block_cell hbx.k 1
          have c2 := block_cell hbx.k 2
          clear hbx
          go_wp2_with (first | (at_builtin; go_must (refine wpList_append_gen2 eltT rfl (.tmp 52) (.tmp 62) rfl rfl w.heap.size _ M rfl (HX.out.below ((Below.refl _ _).alloc (Nat.le_refl _) _)).r.ou _ [(0, s.extract q e, q)] (LAt.block rfl rfl (box_new2 _ _ _)) rfl (by simp only [List.length_cons, List.length_nil]; omega) (by unfold maxLen; simp only [List.length_cons, List.length_nil]; omega) ((HX.out.below ((Below.refl _ _).alloc (Nat.le_refl _) _)).r.hb) ?_); intro va wa hoa hga haa; have hgr := (HX.out.below ((Below.refl _ _).alloc (Nat.le_refl _) _)).growU hoa hga (haa.imp id (fun h => ⟨_, h, Nat.le_refl _⟩)); have HG := Lib.hid hgr.1; have HGB := Lib.hid ((HBb.out.alloc HBb.out.size _).trans hgr.2); have d0 := block_cell hgr.1.k 0; have d1 := block_cell hgr.1.k 1; clear hoa hga haa hgr))
          have hfl := (feedL_len T q).2
          refine (refFeed_any w.heap.size _ T q _ HG.out.r.ov HG.out.r.hb (by omega)).mono ?_
          rintro e1 w2 ⟨v', rfl, hoa, hga, haa⟩
          have hgr := HG.out.growV hoa hga haa
          have HG2 := Lib.hid hgr.1
          have HGB2 := Lib.hid (HGB.out.trans hgr.2)
          have d3 := block_cell hgr.1.k 1
          clear hoa hga haa hgr
          go_wp2_with fail
          go_roundg (s.size - (e))
          case measure => omega
          case rel => exact ⟨e, feedL T q, M ++ [(0, s.extract q e, q)], by omega, by go_num, Lib.hid HG2.out.r, HE2, by omega, by rw [List.length_append]; simp only [List.length_cons, List.length_nil]; omega, HGB2⟩
        | false =>
          have HE2 := Lib.hid (HE.out.trans (show lexT s q T M = lexT s e T (M ++ [(0, s.extract q e, q)]) from by
            have := lexT_step hq (show (thing s q).ok = true by rw [hth]; rfl) T M
            rw [hth] at this
            rw [this]
            simp only [lNext, mNext, Th.en, hlf]
            rfl))
          clear hte hsp
          have HN : Hid (∀ w1, Calls Tryz.prog 29 #[.string s, .int .i64 q] w1 fun e' w' => e' = .returned (.agg #[.int .i64 (-3), .int .i64 ((e - q : Nat)), .int .i64 (0)]) ∧ Below w1.heap.size w1 w') := Lib.hid (fun w1 => (next26_any s q w1 hs hq).mono (fun e2 w2 hh => ⟨by rw [hh.1, hth]; simp only [nextV, hlf]; rfl, hh.2⟩))
          clear hth hlf
          go_wp2_with fail
          refine (HN.out _).mono ?_
          rintro e1 w1 ⟨rfl, hB1⟩
          have HR1 := Lib.hid (HR.out.below hB1)
          have HB1 := Lib.hid (HB.out.trans (hB1.mono HB.out.size))
          clear hB1
          have hbx := boxT_made w1 (.int .i64 (-3)) (.int .i64 ((e - q : Nat))) (.int .i64 (0))
          have HX := Lib.hid (Rb.make HR1.out hbx)
          have HBb := Lib.hid (HB1.out.trans (hbx.b.mono HB1.out.size))
          have c0 := block_cell hbx.k 0
          have c1 := block_cell hbx.k 1
          have c2 := block_cell hbx.k 2
          clear hbx
          go_wp2_with (first | (at_builtin; go_must (refine wpList_append_gen2 eltT rfl (.tmp 52) (.tmp 62) rfl rfl w.heap.size _ M rfl (HX.out.below ((Below.refl _ _).alloc (Nat.le_refl _) _)).r.ou _ [(0, s.extract q e, q)] (LAt.block rfl rfl (box_new2 _ _ _)) rfl (by simp only [List.length_cons, List.length_nil]; omega) (by unfold maxLen; simp only [List.length_cons, List.length_nil]; omega) ((HX.out.below ((Below.refl _ _).alloc (Nat.le_refl _) _)).r.hb) ?_); intro va wa hoa hga haa; have hgr := (HX.out.below ((Below.refl _ _).alloc (Nat.le_refl _) _)).growU hoa hga (haa.imp id (fun h => ⟨_, h, Nat.le_refl _⟩)); have HG := Lib.hid hgr.1; have HGB := Lib.hid ((HBb.out.alloc HBb.out.size _).trans hgr.2); have d0 := block_cell hgr.1.k 0; have d1 := block_cell hgr.1.k 1; clear hoa hga haa hgr))
          go_roundg (s.size - (e))
          case measure => omega
          case rel => exact ⟨e, T, M ++ [(0, s.extract q e, q)], by omega, by go_num, Lib.hid HG.out.r, HE2, by omega, by rw [List.length_append]; simp only [List.length_cons, List.length_nil]; omega, HGB⟩
      | tok c e =>
        have he : q < e ∧ e ≤ s.size := by
          have := hte.2 (by rw [hth]; rfl)
          rw [hth] at this
          exact ⟨this.1, this.2.1⟩
        have hsum : (q : Int) + ((e - q : Nat) : Int) = e := by omega
        have hqe : (q : Int) ≤ (e : Int) := by omega
        have heI : (e : Int) ≤ (s.size : Int) := by omega
        have hxs : (s.extract q e).size ≤ 1048576 := by rw [ByteArray.size_extract]; omega
        have hc := hsp c e hth
        have Hsl := Lib.hid (slice_str s q e (by omega) he.2)
        have Hw := Lib.hid (show IntKind.i64.wrap (e : Int) = (e : Int) by simp [IntKind.wrap, IntKind.bits, IntKind.signed]; omega)
        have u7 : ((c : Int) == 7) = false := beq_eq_false_iff_ne.2 (by omega)
        have u1 : ((c : Int) == -1) = false := beq_eq_false_iff_ne.2 (by omega)
        have u2 : ((c : Int) == -2) = false := beq_eq_false_iff_ne.2 (by omega)
        have u3 : ((c : Int) == -3) = false := beq_eq_false_iff_ne.2 (by omega)
        have u4 : ((c : Int) == -4) = false := beq_eq_false_iff_ne.2 (by omega)
        have HE2 := Lib.hid (HE.out.trans (show lexT s q T M = lexT s e (T ++ [(c, s.extract q e, q)]) M from by
          have := lexT_step hq (show (thing s q).ok = true by rw [hth]; rfl) T M
          rw [hth] at this
          exact this))
        clear hte hsp hc
        have HN : Hid (∀ w1, Calls Tryz.prog 29 #[.string s, .int .i64 q] w1 fun e' w' => e' = .returned (.agg #[.int .i64 ((c : Nat)), .int .i64 ((e - q : Nat)), .int .i64 (0)]) ∧ Below w1.heap.size w1 w') := Lib.hid (fun w1 => (next26_any s q w1 hs hq).mono (fun e2 w2 hh => ⟨by rw [hh.1, hth]; rfl, hh.2⟩))
        clear hth
        go_wp2_with fail
        refine (HN.out _).mono ?_
        rintro e1 w1 ⟨rfl, hB1⟩
        have HR1 := Lib.hid (HR.out.below hB1)
        have HB1 := Lib.hid (HB.out.trans (hB1.mono HB.out.size))
        clear hB1
        have hbx := boxT_made w1 (.int .i64 ((c : Nat))) (.int .i64 ((e - q : Nat))) (.int .i64 (0))
        have HX := Lib.hid (Rb.make HR1.out hbx)
        have HBb := Lib.hid (HB1.out.trans (hbx.b.mono HB1.out.size))
        have c0 := block_cell hbx.k 0
        have c1 := block_cell hbx.k 1
        have c2 := block_cell hbx.k 2
        clear hbx
        go_wp2_with fail
        generalize w1.alloc (.cells #[.int .i64 ((c : Nat)), .int .i64 ((e - q : Nat)), .int .i64 (0)] 67) = wb at *
        clear c0 c2
        have hd4 : Below wb.heap.size wb wb.drew := (Below.refl _ _).drew
        have hRL : ∃ Rs : List (Value → World → Prop), Rs = [RbE w.heap.size w1.heap.size (.int .i64 (c : Nat)) (.int .i64 (e - q : Nat)) (.int .i64 0) T M (.slice pv T.length cv) (.slice pu M.length cu),
            K3.PureV (.pointer (some ⟨w1.heap.size, 0, none⟩)),
            K3.PureV (.int .i64 (c : Nat)),
            K3.PureV (.string s),
            K3.PureV (.int .i64 (q : Nat)),
            K3.PureV (.int .i64 (q : Nat)),
            K3.PureV (.pointer (some ⟨w1.heap.size, 1, none⟩)),
            K3.PureV (.int .i64 (e - q : Nat)),
            K3.PureV (.int .i64 (e : Nat)),
            K3.PureV (.string (s.extract q e)),
            K3.PureV (.int .i64 (q : Nat)),
            K3.PureV (.agg (tkV (c, s.extract q e, q)).toArray),
            K3.NewB 1 (tkV (c, s.extract q e, q)).toArray 35,
            RbW w.heap.size w1.heap.size (.int .i64 (c : Nat)) (.int .i64 (e - q : Nat)) (.int .i64 0) (T ++ [(c, s.extract q e, q)]) M (.slice pu M.length cu),
            RbW w.heap.size w1.heap.size (.int .i64 (c : Nat)) (.int .i64 (e - q : Nat)) (.int .i64 0) (T ++ [(c, s.extract q e, q)]) M (.slice pu M.length cu)] := ⟨_, rfl⟩
        obtain ⟨Rs, hRs⟩ := hRL
        refine K3.wp_region_rel2 w.heap.size HBb.out.size (K3.RL Rs) [1, 2, 2, 2, 2, 2, 2, 2, 2, 2, 2, 2, 1, 1, 1] [1, 1, 1, 1, 1, 1, 1, 1, 1, 1, 1, 1, 1, 2, 1] [[], [], [], [], [], [], [], [], [], [], [], [], [], [0, 12], []] (by kernel_rfl) (by kernel_rfl) (K3.RL.st1 (by rw [hRs]; exact K3.st1_cons (RbE.st1 _ _ _ _ _ _ _ _ _) (K3.st1_cons (K3.PureV.st1 _) (K3.st1_cons (K3.PureV.st1 _) (K3.st1_cons (K3.PureV.st1 _) (K3.st1_cons (K3.PureV.st1 _) (K3.st1_cons (K3.PureV.st1 _) (K3.st1_cons (K3.PureV.st1 _) (K3.st1_cons (K3.PureV.st1 _) (K3.st1_cons (K3.PureV.st1 _) (K3.st1_cons (K3.PureV.st1 _) (K3.st1_cons (K3.PureV.st1 _) (K3.st1_cons (K3.PureV.st1 _) (K3.st1_cons (K3.NewB.st1 _ _ _) (K3.st1_cons (RbW.st1 _ _ _ _ _ _ _ _) (K3.st1_cons (RbW.st1 _ _ _ _ _ _ _ _) (K3.st1_nil))))))))))))))))) (K3.RL.st2 (by rw [hRs]; exact K3.st2_skip (K3.st2_cons (K3.PureV.st2 _ _ _) (K3.st2_cons (K3.PureV.st2 _ _ _) (K3.st2_cons (K3.PureV.st2 _ _ _) (K3.st2_cons (K3.PureV.st2 _ _ _) (K3.st2_cons (K3.PureV.st2 _ _ _) (K3.st2_cons (K3.PureV.st2 _ _ _) (K3.st2_cons (K3.PureV.st2 _ _ _) (K3.st2_cons (K3.PureV.st2 _ _ _) (K3.st2_cons (K3.PureV.st2 _ _ _) (K3.st2_cons (K3.PureV.st2 _ _ _) (K3.st2_cons (K3.PureV.st2 _ _ _) (K3.st2_skip (K3.st2_skip (K3.st2_skip (K3.st2_nil))))))))))))))))) ?_ ?_ ?_
        · intro i o d hi hd
          have hmem := List.mem_of_getElem? hi
          simp only [List.mem_cons, List.not_mem_nil, or_false] at hmem
          rcases hmem with rfl | rfl | rfl | rfl | rfl | rfl | rfl | rfl | rfl | rfl | rfl | rfl | rfl | rfl | rfl <;> simp at hd <;> (subst hd; simp)
        · refine K3.rel_start (Φ := K3.Hop _ _ _ _ _ _ _) ?_
          refine K3.rel_cons (Φ := K3.Hop _ _ _ _ _ _ _) (k := 0) ?_ ?_
          · intro fa fw hfB hfN hfE hfk hft
            have hE : Below wb.drew.heap.size wb.drew fw := hfE (by kernel_rfl)
            have k4 : fa.eval (.tmp 4) = .slice pv T.length cv := hft 4 (K3.mem_looks (by kernel_rfl)) (K3.noneed (by kernel_rfl))
            rw [hRs]
            refine K3.hop_plain rfl ?_
            refine K3.out_move rfl ?_
            exact ⟨⟨k4, (HX.out.below hd4).below hE⟩, Below.refl _ _⟩
          refine K3.rel_cons (Φ := K3.Hop _ _ _ _ _ _ _) (k := 1) ?_ ?_
          · intro fa fw hfB hfN hfE hfk hft
            have k7 : fa.eval (.tmp 7) = .pointer (some ⟨w1.heap.size, 0, none⟩) := hft 7 (K3.mem_looks (by kernel_rfl)) (K3.noneed (by kernel_rfl))
            rw [hRs]
            refine K3.hop_plain rfl ?_
            generalize fa.eval = ρ at *
            exact K3.out_run (v := .pointer (some ⟨w1.heap.size, 0, none⟩)) (w' := fw) (by simp [execOp, k7, go_sem]) ⟨rfl, Below.refl _ _⟩
          refine K3.rel_cons (Φ := K3.Hop _ _ _ _ _ _ _) (k := 2) ?_ ?_
          · intro fa fw hfB hfN hfE hfk hft
            have hE : Below wb.drew.heap.size wb.drew fw := hfE (by kernel_rfl)
            have k20 : fa.eval (.tmp 20) = (.pointer (some ⟨w1.heap.size, 0, none⟩)) := by have := hfk 1 (K3.mem_needs (by kernel_rfl)) _ rfl; rw [hRs] at this; exact this
            rw [hRs]
            refine K3.hop_plain rfl ?_
            have hbx := ((HX.out.below hd4).below hE).k
            exact out_load3 rfl k20 (by simp [go_sem, block_cell hbx]) ⟨rfl, Below.refl _ _⟩
          refine K3.rel_cons (Φ := K3.Hop _ _ _ _ _ _ _) (k := 3) ?_ ?_
          · intro fa fw hfB hfN hfE hfk hft
            have k0 : fa.eval (.tmp 0) = .string s := hft 0 (K3.mem_looks (by kernel_rfl)) (K3.noneed (by kernel_rfl))
            rw [hRs]
            refine K3.hop_plain rfl ?_
            refine K3.out_move rfl ?_
            exact ⟨k0, Below.refl _ _⟩
          refine K3.rel_cons (Φ := K3.Hop _ _ _ _ _ _ _) (k := 4) ?_ ?_
          · intro fa fw hfB hfN hfE hfk hft
            have k6 : fa.eval (.tmp 6) = .int .i64 (q : Nat) := hft 6 (K3.mem_looks (by kernel_rfl)) (K3.noneed (by kernel_rfl))
            rw [hRs]
            refine K3.hop_plain rfl ?_
            refine K3.out_move rfl ?_
            exact ⟨k6, Below.refl _ _⟩
          refine K3.rel_cons (Φ := K3.Hop _ _ _ _ _ _ _) (k := 5) ?_ ?_
          · intro fa fw hfB hfN hfE hfk hft
            have k6 : fa.eval (.tmp 6) = .int .i64 (q : Nat) := hft 6 (K3.mem_looks (by kernel_rfl)) (K3.noneed (by kernel_rfl))
            rw [hRs]
            refine K3.hop_plain rfl ?_
            refine K3.out_move rfl ?_
            exact ⟨k6, Below.refl _ _⟩
          refine K3.rel_cons (Φ := K3.Hop _ _ _ _ _ _ _) (k := 6) ?_ ?_
          · intro fa fw hfB hfN hfE hfk hft
            have k7 : fa.eval (.tmp 7) = .pointer (some ⟨w1.heap.size, 0, none⟩) := hft 7 (K3.mem_looks (by kernel_rfl)) (K3.noneed (by kernel_rfl))
            rw [hRs]
            refine K3.hop_plain rfl ?_
            generalize fa.eval = ρ at *
            exact K3.out_run (v := .pointer (some ⟨w1.heap.size, 1, none⟩)) (w' := fw) (by simp [execOp, k7, go_sem]) ⟨rfl, Below.refl _ _⟩
          refine K3.rel_cons (Φ := K3.Hop _ _ _ _ _ _ _) (k := 7) ?_ ?_
          · intro fa fw hfB hfN hfE hfk hft
            have hE : Below wb.drew.heap.size wb.drew fw := hfE (by kernel_rfl)
            have k25 : fa.eval (.tmp 25) = (.pointer (some ⟨w1.heap.size, 1, none⟩)) := by have := hfk 6 (K3.mem_needs (by kernel_rfl)) _ rfl; rw [hRs] at this; exact this
            rw [hRs]
            refine K3.hop_plain rfl ?_
            have hbx := ((HX.out.below hd4).below hE).k
            exact out_load3 rfl k25 (by simp [go_sem, block_cell hbx]) ⟨rfl, Below.refl _ _⟩
          refine K3.rel_cons (Φ := K3.Hop _ _ _ _ _ _ _) (k := 8) ?_ ?_
          · intro fa fw hfB hfN hfE hfk hft
            have k24 : fa.eval (.tmp 24) = (.int .i64 (q : Nat)) := by have := hfk 5 (K3.mem_needs (by kernel_rfl)) _ rfl; rw [hRs] at this; exact this
            have k26 : fa.eval (.tmp 26) = (.int .i64 (e - q : Nat)) := by have := hfk 7 (K3.mem_needs (by kernel_rfl)) _ rfl; rw [hRs] at this; exact this
            rw [hRs]
            refine K3.hop_plain rfl ?_
            generalize fa.eval = ρ at *
            exact K3.out_run (v := .int .i64 (e : Nat)) (w' := fw) (by simp [execOp, k24, k26, go_sem, hsum, Hw.out]) ⟨rfl, Below.refl _ _⟩
          refine K3.rel_cons (Φ := K3.Hop _ _ _ _ _ _ _) (k := 9) ?_ ?_
          · intro fa fw hfB hfN hfE hfk hft
            have k22 : fa.eval (.tmp 22) = (.string s) := by have := hfk 3 (K3.mem_needs (by kernel_rfl)) _ rfl; rw [hRs] at this; exact this
            have k23 : fa.eval (.tmp 23) = (.int .i64 (q : Nat)) := by have := hfk 4 (K3.mem_needs (by kernel_rfl)) _ rfl; rw [hRs] at this; exact this
            have k27 : fa.eval (.tmp 27) = (.int .i64 (e : Nat)) := by have := hfk 8 (K3.mem_needs (by kernel_rfl)) _ rfl; rw [hRs] at this; exact this
            rw [hRs]
            refine K3.hop_plain rfl ?_
            generalize fa.eval = ρ at *
            exact K3.out_run (v := .string (s.extract q e)) (w' := fw) (by unfold execOp; simp only [Option.map, k22, k23, k27, Sem.run_bind, Hsl.out, Result.andThen_ok, Sem.run_pure]) ⟨rfl, Below.refl _ _⟩
          refine K3.rel_cons (Φ := K3.Hop _ _ _ _ _ _ _) (k := 10) ?_ ?_
          · intro fa fw hfB hfN hfE hfk hft
            have k6 : fa.eval (.tmp 6) = .int .i64 (q : Nat) := hft 6 (K3.mem_looks (by kernel_rfl)) (K3.noneed (by kernel_rfl))
            rw [hRs]
            refine K3.hop_plain rfl ?_
            refine K3.out_move rfl ?_
            exact ⟨k6, Below.refl _ _⟩
          refine K3.rel_cons (Φ := K3.Hop _ _ _ _ _ _ _) (k := 11) ?_ ?_
          · intro fa fw hfB hfN hfE hfk hft
            have k21 : fa.eval (.tmp 21) = (.int .i64 (c : Nat)) := by have := hfk 2 (K3.mem_needs (by kernel_rfl)) _ rfl; rw [hRs] at this; exact this
            have k28 : fa.eval (.tmp 28) = (.string (s.extract q e)) := by have := hfk 9 (K3.mem_needs (by kernel_rfl)) _ rfl; rw [hRs] at this; exact this
            have k29 : fa.eval (.tmp 29) = (.int .i64 (q : Nat)) := by have := hfk 10 (K3.mem_needs (by kernel_rfl)) _ rfl; rw [hRs] at this; exact this
            rw [hRs]
            refine K3.hop_plain rfl ?_
            generalize fa.eval = ρ at *
            exact K3.out_run (v := .agg (tkV (c, s.extract q e, q)).toArray) (w' := fw) (by unfold execOp; simp only [List.map_toArray, List.map_cons, List.map_nil, k21, k28, k29, Sem.run_bind, build_tk, Result.andThen_ok, Sem.run_pure]) ⟨rfl, Below.refl _ _⟩
          refine K3.rel_cons (Φ := K3.Hop _ _ _ _ _ _ _) (k := 12) ?_ ?_
          · intro fa fw hfB hfN hfE hfk hft
            have k30 : fa.eval (.tmp 30) = (.agg (tkV (c, s.extract q e, q)).toArray) := by have := hfk 11 (K3.mem_needs (by kernel_rfl)) _ rfl; rw [hRs] at this; exact this
            rw [hRs]
            refine K3.hop_plain rfl ?_
            exact out_buildSlice3 rfl (by simp only [List.map_toArray, List.map_cons, List.map_nil, k30]) (slice_tk fw (c, s.extract q e, q)) ⟨⟨_, rfl, heap_alloc_new _ _⟩, (Below.refl _ _).alloc (Nat.le_refl _) _⟩
          refine K3.rel_cons (Φ := K3.Hop _ _ _ _ _ _ _) (k := 13) ?_ ?_
          · intro fa fw hfB hfN hfE hfk hft
            have k19 : (RbE w.heap.size w1.heap.size (.int .i64 (c : Nat)) (.int .i64 (e - q : Nat)) (.int .i64 0) T M (.slice pv T.length cv) (.slice pu M.length cu)) (fa.eval (.tmp 19)) fw := by have := hfk 0 (K3.mem_needs (by kernel_rfl)) _ rfl; rw [hRs] at this; exact this
            have k31 : (K3.NewB 1 (tkV (c, s.extract q e, q)).toArray 35) (fa.eval (.tmp 31)) fw := by have := hfk 12 (K3.mem_needs (by kernel_rfl)) _ rfl; rw [hRs] at this; exact this
            rw [hRs]
            refine K3.hop_plain rfl ?_
            obtain ⟨hv0, hb0⟩ := k19
            obtain ⟨B1, hb1, hb2⟩ := k31
            obtain ⟨v', w', hr, ho, hg, ha⟩ := run_append_gen2 eltT fw w.heap.size _ _ _ _ [(c, s.extract q e, q)] hb0.r.ov (LAt.block rfl rfl hb2) (by simp only [List.length_cons, List.length_nil]; omega) (by unfold maxLen; simp only [List.length_cons, List.length_nil]; omega) hb0.r.hb
            obtain ⟨q1, q2⟩ := hb0.growV (T' := T ++ [(c, s.extract q e, q)]) (by rw [List.length_append, LF_app]; exact ho) hg (ha.imp id (fun h => ⟨_, h, Nat.le_refl _⟩))
            exact out_append_k3 (.tmp 19) (.tmp 31) 32 rfl hv0 hb1 hr ⟨⟨q1⟩, q2⟩
          refine K3.rel_cons (Φ := K3.Hop _ _ _ _ _ _ _) (k := 14) ?_ ?_
          · intro fa fw hfB hfN hfE hfk hft
            have k32 : (RbW w.heap.size w1.heap.size (.int .i64 (c : Nat)) (.int .i64 (e - q : Nat)) (.int .i64 0) (T ++ [(c, s.extract q e, q)]) M (.slice pu M.length cu)) (fa.eval (.tmp 32)) fw := by have := hfk 13 (K3.mem_needs (by kernel_rfl)) _ rfl; rw [hRs] at this; exact this
            rw [hRs]
            refine K3.hop_plain rfl ?_
            refine K3.out_assign rfl ?_
            exact ⟨k32, Below.refl _ _⟩
          exact K3.rel_nil
        · intro fa fw hfB hfy hff hfs hfd
          rw [hRs] at hfy
          have k4 : RbW w.heap.size w1.heap.size (.int .i64 (c : Nat)) (.int .i64 (e - q : Nat)) (.int .i64 0) (T ++ [(c, s.extract q e, q)]) M (.slice pu M.length cu) (fa.tmps.getD 4 undef) fw := hfy 14 _ rfl (K3.unkilled (by decide))
          have hBf : Below w.heap.size w fw := HBb.out.trans ((hd4.mono HBb.out.size).trans hfB)
          have e := K3.rel_frame [19, 20, 21, 22, 23, 24, 25, 26, 27, 28, 29, 30, 31, 32, 4] (by kernel_rfl) hff hfs hfd
          simp only [List.foldl] at e
          clear hfy hff hfs hfd 
          generalize fa.tmps.getD 19 undef = x19 at e
          generalize fa.tmps.getD 20 undef = x20 at e
          generalize fa.tmps.getD 21 undef = x21 at e
          generalize fa.tmps.getD 22 undef = x22 at e
          generalize fa.tmps.getD 23 undef = x23 at e
          generalize fa.tmps.getD 24 undef = x24 at e
          generalize fa.tmps.getD 25 undef = x25 at e
          generalize fa.tmps.getD 26 undef = x26 at e
          generalize fa.tmps.getD 27 undef = x27 at e
          generalize fa.tmps.getD 28 undef = x28 at e
          generalize fa.tmps.getD 29 undef = x29 at e
          generalize fa.tmps.getD 30 undef = x30 at e
          generalize fa.tmps.getD 31 undef = x31 at e
          generalize fa.tmps.getD 32 undef = x32 at e
          generalize fa.tmps.getD 4 undef = x4 at e k4
          simp [List.setIfInBounds_toArray, List.set_cons_succ, List.set_cons_zero] at e
          subst e
          have HG := Lib.hid k4.b
          have HGB := Lib.hid hBf
          have d1 := block_cell k4.b.k 1
          clear k4 hBf hd4
          go_wp2_with fail
          go_roundg (s.size - (e))
          case measure => omega
          case rel => exact ⟨e, T ++ [(c, s.extract q e, q)], M, by omega, by go_num, Lib.hid HG.out.r, HE2, by rw [List.length_append]; simp only [List.length_cons, List.length_nil]; omega, by omega, HGB⟩
    · have hqI : ¬ (q : Int) < (s.size : Int) := by omega
      have HE2 := Lib.hid (HL.out q T M HE.out)
      rw [lexT_out hq T M] at HE2
      obtain rfl : q = s.size := by omega
      have hfl := (feedL_len T s.size).2
      go_wp2_with fail
      refine (refFeed_any w.heap.size _ T s.size _ HR.out.ov HR.out.hb (by omega)).mono ?_
      rintro e1 w1 ⟨v', rfl, hoa, hga, haa⟩
      have hgr := HR.out.growV hoa hga haa
      have HR2 := Lib.hid hgr.1
      have HB2 := Lib.hid (HB.out.trans hgr.2)
      clear hoa hga haa hgr
      go_wp2_with (first | (at_builtin; go_must (refine wpList_append_gen2 eltT rfl (.tmp 76) (.tmp 79) rfl rfl w.heap.size _ (feedL T s.size) rfl (HR2.out.below ((Below.refl _ _).alloc (Nat.le_refl _) _)).ov _ [(0, ⟨#[]⟩, s.size)] (LAt.block rfl rfl (heap_alloc_new _ _)) rfl (by simp only [List.length_cons, List.length_nil]; omega) (by unfold maxLen; simp only [List.length_cons, List.length_nil]; omega) ((HR2.out.below ((Below.refl _ _).alloc (Nat.le_refl _) _)).hb) ?_); intro va wa hoa hga haa; have hgr := (HR2.out.below ((Below.refl _ _).alloc (Nat.le_refl _) _)).growV hoa hga (haa.imp id (fun h => ⟨_, h, Nat.le_refl _⟩)); have HG := Lib.hid hgr.1; have HGB := Lib.hid ((HB2.out.alloc HB2.out.size _).trans hgr.2);  clear hoa hga haa hgr))
      go_ret2
      exact ⟨_, _, rfl, by rw [HE2.out.1]; exact LAt.own (fun y _ => tkV_len y) HG.out.ov, by rw [HE2.out.2]; exact LAt.own (fun y _ => tkV_len y) HG.out.ou, HGB.out⟩
end Go.Proofs.YtejogobhnbjpdaaGreatDoor
