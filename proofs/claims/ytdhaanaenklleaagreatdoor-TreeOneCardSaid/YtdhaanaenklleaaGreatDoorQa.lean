/- Going through a tree, plain; of a tree that Build made these are just the files; Going through a tree: Files; Files; the tree's laws are alive. -/
import Derived.Test.YtdhaanaenklleaaGreatDoorQ9
namespace Go.Proofs.YtdhaanaenklleaaGreatDoor
set_option linter.unusedVariables false
set_option linter.unusedSimpArgs false
open Go.ChangeShapes Go.WideShapes Go.ChangeAt Go.RowKit

/-- A path, and an id. -/
abbrev PId := ByteArray × (List UInt8 × Unit)
def thrL (rec_ : List UInt8 → ByteArray → Nat → List PId → Int × Nat × List PId) (d : ByteArray) : List Ent → Nat → List PId → Int × Nat × List PId
  | [], c, fs => (0, c, fs)
  | x :: r, c, fs =>
    if 4096 < c + 1 then (3, c + 1, fs)
    else if x.2.1 = false then thrL rec_ d r (c + 1) (fs ++ [(jn d x.1, x.2.2.1, ())])
    else if (rec_ x.2.2.1 (jn d x.1) (c + 1) fs).1 = 0 then thrL rec_ d r (rec_ x.2.2.1 (jn d x.1) (c + 1) fs).2.1 (rec_ x.2.2.1 (jn d x.1) (c + 1) fs).2.2
    else rec_ x.2.2.1 (jn d x.1) (c + 1) fs
def thr (look : List UInt8 → Option (List Ent)) : Nat → List UInt8 → ByteArray → Nat → List PId → Int × Nat × List PId
  | 0, _, _, c, fs => (8, c, fs)
  | n + 1, id, d, c, fs => match look id with
    | none => (5, c, fs)
    | some l => thrL (thr look n) d l c fs
def fileP (f : Fil) : PId := (f.1, bid f.2.1, ())
/-- How many entries a tree of Build has, and those below. -/
def cntE (n : Nat) (d : ByteArray) (l : List Fil) : Nat := l.length + (bldS n d l).length
theorem thr_bld (look : List UInt8 → Option (List Ent)) : ∀ (n : Nat) (d : ByteArray) (l : List Fil) (k c : Nat) (fs : List PId), Low d l → l.length + (17 - (splitL d).length) ≤ n → 15 ≤ k + (splitL d).length → c + cntE n d l ≤ 4096 → (∀ a ∈ bldS n d l, look (tid (treeB a)) = some a) →
    thrL (thr look k) d (bldE n d l) c fs = (0, c + cntE n d l, fs ++ l.map fileP)
  | 0, d, [], k, c, fs, _, _, _, _, _ => by simp [bldE, thrL, cntE, bldS]
  | 0, d, f :: r, k, c, fs, _, hn, _, _, _ => by simp at hn
  | n + 1, d, [], k, c, fs, _, _, _, _, _ => by simp [bldE, thrL, cntE, bldS]
  | n + 1, d, f :: r, k, c, fs, h, hn, hk, hc, hlook => by
    have gf := h.a.1 f List.mem_cons_self
    have uf := h.u f List.mem_cons_self
    have hdp := low_depth gf uf
    simp only [List.length_cons] at hn
    by_cases hw : partH (underB d f.1).1 = (underB d f.1).1
    · have e1 : bldE (n + 1) d (f :: r) = (partH (underB d f.1).1, false, bid f.2.1, ()) :: bldE n d r := by rw [bldE, if_pos hw]
      have e2 : bldS (n + 1) d (f :: r) = bldS n d r := by rw [bldS, if_pos hw]
      have e3 : cntE (n + 1) d (f :: r) = cntE n d r + 1 := by unfold cntE; rw [e2, List.length_cons]; omega
      rw [e3] at hc ⊢
      rw [e2] at hlook
      have ih := thr_bld look n d r k (c + 1) (fs ++ [fileP f]) h.tail (by omega) hk (by omega) hlook
      have hj : jn d (partH (underB d f.1).1) = f.1 := by rw [hw]; exact under_spec (by rw [← uf]) (good_some gf)
      rw [e1]
      unfold thrL
      simp only [if_neg (show ¬ 4096 < c + 1 by omega), if_true]
      rw [hj]
      show thrL (thr look k) d (bldE n d r) (c + 1) (fs ++ [fileP f]) = _
      rw [ih, List.append_assoc, List.singleton_append, List.map_cons]
      congr 2
      omega
    · obtain ⟨b1, b2, b3⟩ := below_head gf uf hw
      have hpos := belowN_pos (d := jn d (partH (underB d f.1).1)) (f := f) (r := r) b3
      have hle := belowN_le (jn d (partH (underB d f.1).1)) (f :: r)
      have hj := congrArg List.length (jn_parts (d := d) b1 b2)
      rw [List.length_append, List.length_singleton] at hj
      have hI := h.into (e := jn d (partH (underB d f.1).1))
      have hD := h.drop (belowN (jn d (partH (underB d f.1).1)) (f :: r))
      have hfI : f ∈ (f :: r).take (belowN (jn d (partH (underB d f.1).1)) (f :: r)) := by
        obtain ⟨m, hm⟩ : ∃ m, belowN (jn d (partH (underB d f.1).1)) (f :: r) = m + 1 := ⟨_, (Nat.succ_pred_eq_of_pos hpos).symm⟩
        rw [hm, List.take_succ_cons]; exact List.mem_cons_self
      have hdp2 := low_depth (hI.a.1 f hfI) (hI.u f hfI)
      have e1 : bldE (n + 1) d (f :: r) = ((partH (underB d f.1).1), true, tid (treeB (bldE n (jn d (partH (underB d f.1).1)) ((f :: r).take (belowN (jn d (partH (underB d f.1).1)) (f :: r))))), ()) :: bldE n d ((f :: r).drop (belowN (jn d (partH (underB d f.1).1)) (f :: r))) := by rw [bldE, if_neg hw]
      have e2 : bldS (n + 1) d (f :: r) = bldS n (jn d (partH (underB d f.1).1)) ((f :: r).take (belowN (jn d (partH (underB d f.1).1)) (f :: r))) ++ [bldE n (jn d (partH (underB d f.1).1)) ((f :: r).take (belowN (jn d (partH (underB d f.1).1)) (f :: r)))] ++ bldS n d ((f :: r).drop (belowN (jn d (partH (underB d f.1).1)) (f :: r))) := by rw [bldS, if_neg hw]
      obtain ⟨m, hm⟩ : ∃ m, m = belowN (jn d (partH (underB d f.1).1)) (f :: r) := ⟨_, rfl⟩
      obtain ⟨sub, hsub⟩ : ∃ sub, sub = jn d (partH (underB d f.1).1) := ⟨_, rfl⟩
      rw [← hsub] at hm hj hI hD hdp2 e1 e2
      rw [← hm] at hI hD e1 e2
      simp only [List.length_cons] at hle
      rw [← hsub, ← hm] at hle hpos
      have hlI : ((f :: r).take m).length = m := by rw [List.length_take, List.length_cons]; omega
      have hlD : ((f :: r).drop m).length = r.length + 1 - m := by rw [List.length_drop, List.length_cons]
      have e3 : cntE (n + 1) d (f :: r) = cntE n sub ((f :: r).take m) + 1 + cntE n d ((f :: r).drop m) := by
        unfold cntE
        rw [e2, hlI, hlD]
        simp only [List.length_append, List.length_cons, List.length_nil]
        omega
      rw [e3] at hc ⊢
      rw [e2] at hlook
      obtain ⟨k', rfl⟩ : ∃ k', k = k' + 1 := ⟨k - 1, by omega⟩
      have i1 := thr_bld look n sub ((f :: r).take m) k' (c + 1) fs hI (by rw [hlI, hj]; omega) (by rw [hj]; omega) (by omega) (fun a ha => hlook a (List.mem_append_left _ (List.mem_append_left _ ha)))
      have i2 := thr_bld look n d ((f :: r).drop m) (k' + 1) (c + 1 + cntE n sub ((f :: r).take m)) (fs ++ ((f :: r).take m).map fileP) hD (by rw [hlD]; omega) hk (by omega) (fun a ha => hlook a (List.mem_append_right _ ha))
      have hl := hlook (bldE n sub ((f :: r).take m)) (List.mem_append_left _ (List.mem_append_right _ List.mem_cons_self))
      have hrec : thr look (k' + 1) (tid (treeB (bldE n sub ((f :: r).take m)))) sub (c + 1) fs = (0, c + 1 + cntE n sub ((f :: r).take m), fs ++ ((f :: r).take m).map fileP) := by
        rw [← i1]
        show (match look (tid (treeB (bldE n sub ((f :: r).take m)))) with | none => _ | some l => thrL (thr look k') sub l (c + 1) fs) = _
        rw [hl]
      rw [e1]
      unfold thrL
      simp only [if_neg (show ¬ 4096 < c + 1 by omega)]
      rw [if_neg (by simp), ← hsub, hrec]
      simp only [if_true]
      rw [i2, List.append_assoc, ← List.map_append, List.take_append_drop]
      congr 2
      omega
end Go.Proofs.YtdhaanaenklleaaGreatDoor
namespace Go.Proofs.YtdhaanaenklleaaGreatDoor
set_option linter.unusedVariables false
set_option linter.unusedSimpArgs false
open Go.ChangeShapes Go.WideShapes Go.ChangeAt Go.RowKit

theorem set_box8 {w : World} {B i : Nat} {cur : Array Value} {u : Value} {t : TypeId} (h : w.heap[B]? = some (.cells cur t (0, 0))) : (w.setCell ⟨B, i, none⟩ u).heap[B]? = some (.cells (cur.setIfInBounds i u) t (0, 0)) := by
  have hlt := (Array.getElem?_eq_some_iff.1 h).1
  have h' : w.heap[B] = .cells cur t (0, 0) := by simpa [Array.getElem?_eq_getElem hlt] using h
  show (w.heap.modify B _)[B]? = _
  rw [Array.getElem?_eq_getElem (by simpa using hlt), Array.getElem_modify_self, h']
  rfl
theorem out_append_k8 {P : Program} {o : Oper} {ρ : Operand → Value} {w w' : World} {v u v' : Value} {φ : Value → World → Prop} (s x : Operand) (t : TypeId) (ho : o.op = .call { callee := .builtin .append, args := #[s, x], argTypes := #[t, t] })
    (hs : ρ s = v) (hx : ρ x = u) (hr : (Builtin.append_ #[t, t] o.type #[v, u]).run P w = .ok v' w') (hφ : φ v' w') : K3.Out P o ρ w φ := by
  refine K3.out_run (v := v') (w' := w') ?_ hφ
  unfold execOp
  simp only [ho, resolve, invoke, builtin, Sem.run_bind, Sem.run_pure, Result.andThen_ok, List.map_toArray, List.map_cons, List.map_nil, hs, hx, hr]
theorem out_bslice8 {P : Program} {o : Oper} {ρ : Operand → Value} {w w' : World} {φ : Value → World → Prop} {ty : TypeId} {n : Nat} {parts : Array (Nat × Operand)} {ps : Array (Nat × Value)} {v : Value} (ho : o.op = .buildSlice ty n parts) (hx : (parts.map fun (i, x) => (i, ρ x)) = ps) (hr : (Instr.buildSlice ty n ps).run P w = .ok v w') (hφ : φ v w') : K3.Out P o ρ w φ := by
  refine K3.out_run (v := v) (w' := w') ?_ hφ
  unfold execOp
  simp only [ho, hx, Sem.run_bind, Sem.run_pure, Result.andThen_ok, hr]
def pidV (a : PId) : List Value := .string a.1 :: bytV a.2.1
theorem pidV_len {a : PId} (h : a.2.1.length = 32) : (pidV a).length = 33 := by simp [pidV, bytV_len, h]
theorem pidV_one (a : PId) : ∀ u ∈ pidV a, u.oneCell' = true := by
  intro u hu
  simp only [pidV, bytV, List.mem_cons, List.mem_map] at hu
  rcases hu with rfl | ⟨b, _, rfl⟩ <;> rfl
theorem eltP : Elt 35 40 33 48 pidV := ⟨Tryz.underlying35, by kernel_rfl, info_elt (by kernel_rfl), by decide, pidV_one⟩
theorem built_pid (parts : List (Nat × Value)) : Tryz.prog.built 40 parts = Instr.fill (fun i => (#[(0, 1), (1, 32)] : Array (Nat × Nat))[i]?) #[.string ⟨#[]⟩, .int .u8 0, .int .u8 0, .int .u8 0, .int .u8 0, .int .u8 0, .int .u8 0, .int .u8 0, .int .u8 0, .int .u8 0, .int .u8 0, .int .u8 0, .int .u8 0, .int .u8 0, .int .u8 0, .int .u8 0, .int .u8 0, .int .u8 0, .int .u8 0, .int .u8 0, .int .u8 0, .int .u8 0, .int .u8 0, .int .u8 0, .int .u8 0, .int .u8 0, .int .u8 0, .int .u8 0, .int .u8 0, .int .u8 0, .int .u8 0, .int .u8 0, .int .u8 0] parts := by kernel_rfl
theorem build_pid (w : World) (z : ByteArray) (dv : List UInt8) (h : dv.length = 32) :
    (Instr.build 40 #[(0, .string z), (1, .agg (bytV dv).toArray)]).run Tryz.prog w = .ok (.agg (pidV (z, dv, ())).toArray) w := by
  refine run_build w 40 _ _ ?_
  rw [built_pid]
  have hb : (bytV dv).length = 32 := by rw [bytV_len, h]
  have e : (Value.agg (bytV dv).toArray).cells = (bytV dv).toArray := rfl
  have e1 : (Value.string z).cells = #[.string z] := rfl
  simp only [Instr.fill, e, e1, List.size_toArray, hb]
  simp
  apply Array.ext_getElem?
  intro i
  have hf := foldl_get 1 (bytV dv) 0 (#[.string z, .int .u8 0, .int .u8 0, .int .u8 0, .int .u8 0, .int .u8 0, .int .u8 0, .int .u8 0, .int .u8 0, .int .u8 0, .int .u8 0, .int .u8 0, .int .u8 0, .int .u8 0, .int .u8 0, .int .u8 0, .int .u8 0, .int .u8 0, .int .u8 0, .int .u8 0, .int .u8 0, .int .u8 0, .int .u8 0, .int .u8 0, .int .u8 0, .int .u8 0, .int .u8 0, .int .u8 0, .int .u8 0, .int .u8 0, .int .u8 0, .int .u8 0, .int .u8 0] : Array Value) i
  rw [hf]
  rw [hb]
  match i with
  | 0 => simp [pidV]
  | i + 1 =>
    by_cases hi : i < 32
    · rw [if_pos ⟨by omega, by omega, by simp; omega⟩]
      simp [pidV]
    · rw [if_neg (by omega), Array.getElem?_eq_none (by simp; omega), List.getElem?_toArray, pidV, List.getElem?_cons_succ, List.getElem?_eq_none (by show (bytV dv).length ≤ i; omega)]
/-- What a walk comes to: not too many. -/
def OkR (r : Int × Nat × List PId) : Prop := r.2.1 ≤ 4097 ∧ (r.1 = 0 → r.2.1 ≤ 4096) ∧ r.2.2.length ≤ r.2.1
theorem thrL_ok {rec_ : List UInt8 → ByteArray → Nat → List PId → Int × Nat × List PId} {d : ByteArray} (h : ∀ id d c fs, c ≤ 4096 → fs.length ≤ c → OkR (rec_ id d c fs)) : ∀ (l : List Ent) (c : Nat) (fs : List PId), c ≤ 4096 → fs.length ≤ c → OkR (thrL rec_ d l c fs)
  | [], c, fs, hc, hf => ⟨by simp [thrL]; omega, fun _ => by simpa [thrL] using hc, by simpa [thrL] using hf⟩
  | x :: r, c, fs, hc, hf => by
    unfold thrL
    by_cases h1 : 4096 < c + 1
    · rw [if_pos h1]
      exact ⟨by show c + 1 ≤ 4097; omega, fun h => absurd (show (3 : Int) = 0 from h) (by decide), by show fs.length ≤ c + 1; omega⟩
    · rw [if_neg h1]
      by_cases h2 : x.2.1 = false
      · rw [if_pos h2]
        exact thrL_ok h r (c + 1) _ (by omega) (by rw [List.length_append, List.length_singleton]; omega)
      · rw [if_neg h2]
        have hk := h x.2.2.1 (jn d x.1) (c + 1) fs (by omega) (by omega)
        split
        · rename_i h3
          exact thrL_ok h r _ _ (hk.2.1 h3) hk.2.2
        · exact hk
theorem thr_okr (look : List UInt8 → Option (List Ent)) : ∀ (n : Nat) (id : List UInt8) (d : ByteArray) (c : Nat) (fs : List PId), c ≤ 4096 → fs.length ≤ c → OkR (thr look n id d c fs)
  | 0, id, d, c, fs, hc, hf => ⟨by show c ≤ 4097; omega, fun h => absurd (show (8 : Int) = 0 from h) (by decide), hf⟩
  | n + 1, id, d, c, fs, hc, hf => by
    unfold thr
    cases look id with
    | none => exact ⟨by show c ≤ 4097; omega, fun h => absurd (show (5 : Int) = 0 from h) (by decide), hf⟩
    | some l => exact thrL_ok (fun id d c fs h1 h2 => thr_okr look n id d c fs h1 h2) l c fs hc hf
/-- The store's trees, by what stands below B. -/
structure Lk (B b : Nat) (look : List UInt8 → Option (List Ent)) (w : World) : Prop where
  f : ∃ m1 m2 m3 ft nt, w.heap[b]? = some (.cells #[.map (some m1), .map (some m2), .map (some m3)] 81 (0, 0)) ∧ MpV Tryz.prog 32 Lit.string m2 ft nt w ∧ b < B ∧ m2 < B ∧
    ∀ x, match look x with
      | none => ft x = none
      | some a => ∃ r, ft x = some r ∧ LAt 34 entV w r a ∧ (∀ g o n c, r = .slice (some ⟨g, o, none⟩) n c → g < B) ∧ (∀ e ∈ a, e.1.size ≤ 65536 ∧ e.2.2.1.length = 32) ∧ a.length ≤ 65536
theorem lat_keep {X : Type} {n : Nat} {fl : X → List Value} {w w' : World} {B : Nat} {v : Value} {l : List X} (h : LAt n fl w v l) (hk : ∀ g o n c, v = .slice (some ⟨g, o, none⟩) n c → g < B) (hB : Below B w w') : LAt n fl w' v l := by
  refine ⟨h.1, ?_⟩
  rcases h.2 with h2 | ⟨g, o, c, rfl, hb, hc, hm, hcell⟩
  · exact .inl h2
  · exact .inr ⟨g, o, c, rfl, Nat.lt_of_lt_of_le hb hB.size, hc, hm, fun j x hx => (hB.cell (p := ⟨g, o + j, none⟩) (hk g o _ c rfl)).trans (hcell j x hx)⟩
theorem Lk.below {B b : Nat} {look : List UInt8 → Option (List Ent)} {w w' : World} (h : Lk B b look w) (hB : Below B w w') : Lk B b look w' := by
  obtain ⟨m1, m2, m3, ft, nt, h1, h2, h3, h4, h5⟩ := h.f
  refine ⟨m1, m2, m3, ft, nt, (hB.block _ h3).trans h1, h2.of_block (hB.block _ h4), h3, h4, fun x => ?_⟩
  have h6 := h5 x
  cases hl : look x with
  | none => rw [hl] at h6; exact h6
  | some a =>
    rw [hl] at h6
    obtain ⟨r, r1, r2, r3, r4⟩ := h6
    exact ⟨r, r1, lat_keep r2 r3 hB, r3, r4⟩
theorem Lk.mono {B B2 b : Nat} {look : List UInt8 → Option (List Ent)} {w : World} (h : Lk B b look w) (k : B ≤ B2) : Lk B2 b look w := by
  obtain ⟨m1, m2, m3, ft, nt, h1, h2, h3, h4, h5⟩ := h.f
  refine ⟨m1, m2, m3, ft, nt, h1, h2, by omega, by omega, fun x => ?_⟩
  have h6 := h5 x
  cases hl : look x with
  | none => rw [hl] at h6; exact h6
  | some a =>
    rw [hl] at h6
    obtain ⟨r, r1, r2, r3, r4⟩ := h6
    exact ⟨r, r1, r2, fun g o n c e => by have := r3 g o n c e; omega, r4⟩
/-- The walk's own block, and its files. -/
structure Wk (gw b c : Nat) (fs : List PId) (w : World) : Prop where
  f : ∃ fv, w.heap[gw]? = some (.cells #[.pointer (some ⟨b, 0, none⟩), fv, .int .i64 (c : Int)] 89 (0, 0)) ∧ w.ownsRow (gw + 1) 40 33 fv fs.length (LF pidV fs)
theorem Wk.below {gw b c : Nat} {fs : List PId} {w w' : World} (h : Wk gw b c fs w) (hB : Below w.heap.size w w') : Wk gw b c fs w' := by
  obtain ⟨fv, h1, h2⟩ := h.f
  exact ⟨fv, (hB.block _ (lt_of_block h1)).trans h1, gen_own_below h2 hB⟩
theorem Wk.lt {gw b c : Nat} {fs : List PId} {w : World} (h : Wk gw b c fs w) : gw < w.heap.size := by
  obtain ⟨fv, h1, h2⟩ := h.f
  exact lt_of_block h1
theorem Wk.count {gw b c : Nat} {fs : List PId} {w : World} (h : Wk gw b c fs w) : Wk gw b (c + 1) fs (w.setCell ⟨gw, 2, none⟩ (.int .i64 ((c : Int) + 1))) ∧ Below gw w (w.setCell ⟨gw, 2, none⟩ (.int .i64 ((c : Int) + 1))) := by
  obtain ⟨fv, h1, h2⟩ := h.f
  refine ⟨⟨fv, ?_, ownsRow_setCell_below h2 (by show gw < gw + 1; omega) _⟩, Below.setCell (B := gw) (Below.refl gw w) (p := ⟨gw, 2, none⟩) (Nat.le_refl gw) _⟩
  rw [set_box8 h1]
  simp
structure FvV (gw b c : Nat) (fs : List PId) (fv : Value) (w0 : World) (v : Value) (w : World) : Prop where
  e : v = fv
  o : w.ownsRow (gw + 1) 40 33 fv fs.length (LF pidV fs)
  g : w.heap[gw]? = some (.cells #[.pointer (some ⟨b, 0, none⟩), fv, .int .i64 (c : Int)] 89 (0, 0))
  bl : Below gw w0 w
theorem FvV.st1 (gw b c : Nat) (fs : List PId) (fv : Value) (w0 : World) : K3.St1 (FvV gw b c fs fv w0) := fun v w1 w2 h hB =>
  ⟨h.e, gen_own_below h.o hB, (hB.block _ (lt_of_block h.g)).trans h.g, h.bl.trans (hB.mono (Nat.le_of_lt (lt_of_block h.g)))⟩
structure ApV (gw b c : Nat) (fs : List PId) (fv : Value) (w0 : World) (v : Value) (w : World) : Prop where
  o : w.ownsRow (gw + 1) 40 33 v fs.length (LF pidV fs)
  g : w.heap[gw]? = some (.cells #[.pointer (some ⟨b, 0, none⟩), fv, .int .i64 (c : Int)] 89 (0, 0))
  bl : Below gw w0 w
theorem ApV.st1 (gw b c : Nat) (fs : List PId) (fv : Value) (w0 : World) : K3.St1 (ApV gw b c fs fv w0) := fun v w1 w2 h hB =>
  ⟨gen_own_below h.o hB, (hB.block _ (lt_of_block h.g)).trans h.g, h.bl.trans (hB.mono (Nat.le_of_lt (lt_of_block h.g)))⟩
structure StW (gw b c : Nat) (fs : List PId) (w0 : World) (v : Value) (w : World) : Prop where
  k : Wk gw b c fs w
  bl : Below gw w0 w
theorem StW.st1 (gw b c : Nat) (fs : List PId) (w0 : World) : K3.St1 (StW gw b c fs w0) := fun v w1 w2 h hB =>
  ⟨h.k.below hB, h.bl.trans (hB.mono (Nat.le_of_lt h.k.lt))⟩
theorem own_slice2 {w : World} {base e s : Nat} {v : Value} {n : Nat} {xs : List Value} (h : w.ownsRow base e s v n xs) : ∃ p c, v = .slice p n c := by
  rcases h.2 with ⟨h1, h2⟩ | ⟨g, cap, cur, hv, _⟩
  · subst h1; exact ⟨none, 0, by rw [h2]⟩
  · exact ⟨_, cap, hv⟩
theorem out_store70 {o : Oper} {ρ : Operand → Value} {w : World} {φ : Value → World → Prop} {x y : Operand} {B i t : Nat} {p : Option Addr} {n c : Nat} {R : Array Value} (ho : o.op = .store 35 x y) (hx : ρ x = .pointer (some ⟨B, i, none⟩)) (hy : ρ y = .slice p n c)
    (hg : w.heap[B]? = some (.cells R t (0, 0))) (hi : i < R.size) (hφ : φ undef (w.setCell ⟨B, i, none⟩ (.slice p n c))) : K3.Out Tryz.prog o ρ w φ := by
  have hlt := (Array.getElem?_eq_some_iff.1 hg).1
  have hc : w.cell? ⟨B, i, none⟩ = some R[i] := by simp [World.cell?, hg, hi]
  have hf : w.frozen? ⟨B, i, none⟩ = false := by simp [World.frozen?, hg]
  have hw : (storeVar 35 ⟨B, i, none⟩ (.slice p n c)).run Tryz.prog w = .ok () (w.setCell ⟨B, i, none⟩ (.slice p n c)) := by
    simp [storeVar, go_sem, hc, hf]
  unfold K3.Out execOp
  simp only [ho, hx, hy, Instr.storeAt, Instr.sureAddr, Sem.run_bind, Sem.run_pure, Result.andThen_ok, hw]
  exact hφ
theorem run_loadVar_mid37 {x : World} {B o : Nat} {l : List UInt8} (h : ∀ j y, (bytV l)[j]? = some y → x.cell? ⟨B, o + j, none⟩ = some y) (hl : l.length = 32) : (loadVar 32 ⟨B, o, none⟩).run Tryz.prog x = .ok (.agg (bytV l).toArray) x :=
  run_loadVar_mid (P := Tryz.prog) x B o 32 (bytV l) _ h Tryz.underlying32 rfl (by rw [bytV_len, hl]; kernel_rfl)
theorem zero22 (w : World) : (zeroValue 55).run Tryz.prog w = .ok (.slice none 0 0) w := by
  have hz : Tryz.t55.zero = some (.slice none 0 0) := by kernel_rfl
  simp [zeroValue, go_sem, hz]
theorem wpQuiet_run {P : Program} {C : World → Prop} {ops : Array Oper} {rest : List Oper} {o : Oper} {a : Act} {Q : Act → Prop} (hw : Region.wanted o (yielded ops a.tmps) = true) (m xo : Operand) (t : TypeId) (ho : o.op = .lookup t m xo true) (mv key v : Value) (hm : a.eval m = mv) (hx : a.eval xo = key)
    (hr : ∀ w, C w → (Instr.lookup t mv key true).run P w = .ok v w) (h : wpQuiet P ops C Q rest (a.put o.dst v)) : wpQuiet P ops C Q (o :: rest) a := by
  refine Go.BigFrame.wpQuiet_want hw fun K hK => ⟨v, fun w hw => ?_, hK _ h⟩
  unfold Oper.quietAt execOp
  simp [ho, hm, hx, hr w hw, Result.andThen]
  exact ⟨rfl, rfl⟩
set_option maxRecDepth 100000 in
set_option maxHeartbeats 12000000 in
theorem through_any (gw b : Nat) (look : List UInt8 → Option (List Ent)) : ∀ (n : Nat) (id : List UInt8) (d : ByteArray) (c : Nat) (fs : List PId) (ab : Nat) {w : World} (hL : Lk gw b look w) (hW : Wk gw b c fs w) (hid : id.length = 32) (hn : n + ab = 16) (hd : d.size ≤ 65540 * ab) (hc : c ≤ 4096) (hf : fs.length ≤ c),
    Calls Tryz.prog 42 #[.pointer (some ⟨gw, 0, none⟩), .agg (bytV id).toArray, .string d, .int .i64 (ab : Int)] w fun e w' => e = .returned (.int .i64 (thr look n id d c fs).1) ∧ Wk gw b (thr look n id d c fs).2.1 (thr look n id d c fs).2.2 w' ∧ Below gw w w' := by
  intro n
  induction n with
  | zero =>
    intro id d c fs ab w hL hW hid hn hd hc hf
    have hI : (16 : Int) ≤ (ab : Int) := by omega
    have HB := Lib.hid ((Below.refl w.heap.size w).alloc (Nat.le_refl _) (.cells (bytV id).toArray 32))
    have HW := Lib.hid (hW.below HB.out)
    have Hlt := Lib.hid hW.lt
    have hbl : (bytV id).length = 32 := by rw [bytV_len, hid]
    clear hL hW hid hn hd hc hf
    go_enter Tryz.func42, Tryz.ntmps42
    go_wp2_with fail
    go_ret
    exact ⟨rfl, HW.out, HB.out.mono (Nat.le_of_lt Hlt.out)⟩
  | succ n ih =>
    intro id d c fs ab w hL hW hid hn hd hc hf
    have hI : ¬ (16 : Int) ≤ (ab : Int) := by omega
    have hB0 := (Below.refl w.heap.size w).alloc (Nat.le_refl _) (.cells (bytV id).toArray 32)
    have hG0 := heap_alloc_new w (.cells (bytV id).toArray 32)
    have Hlt := Lib.hid hW.lt
    have HW := Lib.hid (hW.below hB0)
    have HL := Lib.hid (hL.below (hB0.mono (Nat.le_of_lt Hlt.out)))
    have HLw := Lib.hid hL
    have HB := Lib.hid hB0
    have HG0 := Lib.hid hG0
    have Hz := Lib.hid (id_size hid)
    have hbl : (bytV id).length = 32 := by rw [bytV_len, hid]
    have HidL := Lib.hid hid
    have Hn := Lib.hid hn
    have Hd := Lib.hid hd
    have Hih := Lib.hid ih
    have Hc := Lib.hid hc
    have Hf := Lib.hid hf
    clear hL hW hid hn hd hB0 hG0 ih hc hf
    go_enter Tryz.func42, Tryz.ntmps42
    go_upto_region 3 with fail
    generalize w.alloc (.cells (bytV id).toArray 32) = w1 at *
    obtain ⟨m1, m2, m3, ft, nt, hb, hm2, hbg, hmg, hft⟩ := HL.out.f
    obtain ⟨fv0, hgw0, -⟩ := HW.out.f
    have HLa := Lib.hid (fun w' (hB : Below w1.heap.size w1 w') => show (loadVar 29 ⟨gw, 0, none⟩).run Tryz.prog w' = .ok (.pointer (some ⟨b, 0, none⟩)) w' from by
      have h := block_cell ((hB.block gw (lt_of_block hgw0)).trans hgw0) 0
      simp [go_sem, h])
    have HLb := Lib.hid (fun w' (hB : Below w1.heap.size w1 w') => show (loadVar 78 ⟨b, 1, none⟩).run Tryz.prog w' = .ok (.map (some m2)) w' from by
      have h := block_cell ((hB.block b (lt_of_block hb)).trans hb) 1
      simp [go_sem, h])
    have HGr := Lib.hid (fun wx (hx : Below w1.heap.size w1 wx) => (hx.block _ (lt_of_block HG0.out)).trans HG0.out)
    have HLk := Lib.hid (fun w' (hB : Below w1.heap.size w1 w') => show (Instr.lookup 78 (.map (some m2)) (.agg (bytV id).toArray) true).run Tryz.prog w' = .ok (.tuple #[(ft id).getD (.slice none 0 0), .bool (ft id).isSome]) w' from
      (hm2.of_block (hB.block _ hm2.lt)).look keyed37 Tryz.underlying78 (z := .slice none 0 0) (zero22 w') strKeys (key37 id HidL.out))
    have hfti := hft id
    clear hft hb hm2 hgw0
    cases hlk : look id with
    | none =>
      rw [hlk] at hfti
      have hthr := Lib.hid (show thr look (n + 1) id d c fs = (5, c, fs) by unfold thr; rw [hlk])
      rw [hfti] at HLk
      clear hfti hlk
      refine wp_region_class (Below w1.heap.size w1) (by kernel_rfl) (by kernel_rfl) (Below.refl _ _).drew ?_
      repeat (go_big_quiet_step (first | (intro _; rfl)))
      refine wpQuiet_load_at rfl 29 (.tmp 20) rfl ⟨gw, 0, none⟩ rfl (.pointer (some ⟨b, 0, none⟩)) HLa.out ?_
      simp only [Act.put, List.setIfInBounds_toArray, List.set_cons_succ, List.set_cons_zero]
      repeat (go_big_quiet_step (first | (intro _; rfl)))
      refine wpQuiet_load_at rfl 78 (.tmp 23) rfl ⟨b, 1, none⟩ rfl (.map (some m2)) HLb.out ?_
      simp only [Act.put, List.setIfInBounds_toArray, List.set_cons_succ, List.set_cons_zero]
      refine S.wpQuiet_load_row rfl 32 (.tmp 5) rfl w.heap.size rfl 32 (bytV id).toArray (0, 0) _ HGr.out Tryz.underlying32 rfl Hz.out ?_
      simp only [Act.put, List.setIfInBounds_toArray, List.set_cons_succ, List.set_cons_zero]
      refine wpQuiet_run rfl (.tmp 24) (.tmp 25) 78 rfl (.map (some m2)) (.agg (bytV id).toArray) _ rfl rfl HLk.out ?_
      simp only [Act.put, List.setIfInBounds_toArray, List.set_cons_succ, List.set_cons_zero]
      repeat (go_big_quiet_step (first | (intro _; rfl)))
      refine wpQuiet_nil ?_
      intro w2 hB2
      have HB2 := Lib.hid hB2
      clear hB2
      go_wp2_with fail
      go_ret
      exact ⟨by rw [hthr.out]; rfl, by rw [hthr.out]; exact HW.out.below HB2.out, (HB.out.trans (HB2.out.mono HB.out.size)).mono (Nat.le_of_lt Hlt.out)⟩
    | some a =>
      rw [hlk] at hfti
      obtain ⟨r, hr, hla, hrg, hsz, hal⟩ := hfti
      have hthr := Lib.hid (show thr look (n + 1) id d c fs = thrL (thr look n) d a c fs by unfold thr; rw [hlk])
      rw [hr] at HLk
      have hrow := hla.rows (R := entR) (fun x hx => entR_of (by have := (hsz x hx).1; omega) (hsz x hx).2)
      obtain ⟨len, hl⟩ : ∃ len, len = a.length := ⟨_, rfl⟩
      obtain ⟨p, cap, rfl, hp⟩ := hrow.elem hl
      have Hp := Lib.hid hp
      have Hrg := Lib.hid hrg
      have Hsz := Lib.hid hsz
      have Ha := Lib.hid hl
      have Hal := Lib.hid hal
      clear hlk hr hla hrg hsz hal hrow hp hl
      refine wp_region_class (Below w1.heap.size w1) (by kernel_rfl) (by kernel_rfl) (Below.refl _ _).drew ?_
      repeat (go_big_quiet_step (first | (intro _; rfl)))
      refine wpQuiet_load_at rfl 29 (.tmp 20) rfl ⟨gw, 0, none⟩ rfl (.pointer (some ⟨b, 0, none⟩)) HLa.out ?_
      simp only [Act.put, List.setIfInBounds_toArray, List.set_cons_succ, List.set_cons_zero]
      repeat (go_big_quiet_step (first | (intro _; rfl)))
      refine wpQuiet_load_at rfl 78 (.tmp 23) rfl ⟨b, 1, none⟩ rfl (.map (some m2)) HLb.out ?_
      simp only [Act.put, List.setIfInBounds_toArray, List.set_cons_succ, List.set_cons_zero]
      refine S.wpQuiet_load_row rfl 32 (.tmp 5) rfl w.heap.size rfl 32 (bytV id).toArray (0, 0) _ HGr.out Tryz.underlying32 rfl Hz.out ?_
      simp only [Act.put, List.setIfInBounds_toArray, List.set_cons_succ, List.set_cons_zero]
      refine wpQuiet_run rfl (.tmp 24) (.tmp 25) 78 rfl (.map (some m2)) (.agg (bytV id).toArray) _ rfl rfl HLk.out ?_
      simp only [Act.put, List.setIfInBounds_toArray, List.set_cons_succ, List.set_cons_zero]
      repeat (go_big_quiet_step (first | (intro _; rfl)))
      refine wpQuiet_nil ?_
      intro w2 hB2
      have HB2 := Lib.hid hB2
      clear hB2
      go_wp2_with fail
      have HW2 := Lib.hid (HW.out.below HB2.out)
      have HL2 := Lib.hid (HL.out.below (HB2.out.mono (Nat.le_of_lt HW.out.lt)))
      have HB02 := Lib.hid ((HB.out.trans (HB2.out.mono HB.out.size)).mono (Nat.le_of_lt Hlt.out))
      clear HLa HLb HGr HLk HG0
      go_loopg [33] len (fun g iv wr => ∃ (k c' : Nat) (fs' : List PId), k + g = len ∧ iv = .int .i64 k ∧ thrL (thr look n) d a c fs = thrL (thr look n) d (a.drop k) c' fs' ∧ c' ≤ 4096 ∧ fs'.length ≤ c' ∧ Wk gw b c' fs' wr ∧ Below gw w wr)
      case atStart => exact ⟨0, c, fs, by omega, rfl, rfl, Hc.out, Hf.out, HW2.out, HB02.out⟩
      case round =>
        obtain ⟨k, c', fs', hkg, rfl, hth, hc', hf', hW, hB⟩ := hrel
        have Hth := Lib.hid hth
        have HWr := Lib.hid hW
        have HBr := Lib.hid hB
        have Hf' := Lib.hid hf'
        clear hth hW hB hf'
        by_cases hlt : k < len
        · have hltI : (k : Int) < (len : Int) := by omega
          have hka : k < a.length := by have := Ha.out; omega
          obtain ⟨g1, o1, rfl, hg1, hcap1, hmax1, hcell1⟩ := Hp.out (by omega)
          have HpE := Lib.hid hcell1
          have hgg := Hrg.out g1 o1 _ _ rfl
          obtain ⟨ecs, he, hl34, hat⟩ := hcell1 k hka
          obtain ⟨x, hx⟩ : ∃ x, x = a[k] := ⟨_, rfl⟩
          rw [← hx] at he
          obtain ⟨rfl, hxn⟩ := ent_cells he
          have Hx := Lib.hid hx
          have hxs := Hsz.out x (by rw [hx]; exact List.getElem_mem hka)
          have hdrop : a.drop k = x :: a.drop (k + 1) := by rw [List.drop_eq_getElem_cons hka, ← hx]
          have hstep := Hth.out
          rw [hdrop] at hstep
          have Hstep := Lib.hid hstep
          have Hrange := Lib.hid (show wr.rangeAt g1 (o1 + k * 34) (entV x) from fun j y hy => (HBr.out.cell (p := ⟨g1, o1 + k * 34 + j, none⟩) hgg).trans ((HB.out.cell (p := ⟨g1, o1 + k * 34 + j, none⟩) (by show g1 < w.heap.size; have := Hlt.out; omega)).symm.trans (hat j y hy)))
          have Hone := Lib.hid (one_row (entV_one x))
          have hi0 : (Tryz.prog.info? 58).map (·.size) = some 34 := by kernel_rfl
          have Hi1 := Lib.hid (show (Tryz.prog.info? 58).map (·.size) = some (entV x).length by rw [hi0, hl34])
          have Hi2 := Lib.hid (show (Tryz.prog.info? 58).map (·.size) = some ((entV x).toArray).size by rw [hi0, List.size_toArray, hl34])
          have Hsz2 := Lib.hid (show 34 = ((entV x).toArray).size by rw [List.size_toArray, hl34])
          have Hbx := Lib.hid (fun old => boxL_made wr old 58 (entV x))
          clear he hat hcell1 hi0 hl34 hx hdrop hstep hgg
          obtain ⟨nm, tr, xi, ⟨⟩⟩ := x
          simp only at hxs hxn
          have Hxi := Lib.hid hxs.2
          have hnm := hxs.1
          clear hxs
          go_upto_region 9 with (first | (refine wpList_load_mid rfl 58 (.tmp 35) rfl g1 (o1 + k * 34) rfl (entV (nm, tr, xi, ())) _ Hrange.out Tryz.underlying58 rfl Hi1.out ?_) | (refine wpList_store_rowTo rfl 58 (.tmp 12) (.tmp 36) rfl rfl wr.heap.size (entV (nm, tr, xi, ())).toArray rfl rfl 58 _ (heap_alloc_new wr _) Hi2.out (by rw [← Hsz2.out]; rfl) Hone.out ?_))
          refine box_abs (Hbx.out _) ?_
          intro w8 hbx8
          have HBx8 := Lib.hid hbx8
          have HW8 := Lib.hid (HWr.out.below (hbx8.b))
          obtain ⟨fv, hgw, hfv⟩ := HW8.out.f
          have kc2 : w8.cell? ⟨gw, 2, none⟩ = some (.int .i64 (c' : Int)) := block_cell hgw 2
          have kf2 : w8.frozen? ⟨gw, 2, none⟩ = false := block_free hgw 2
          have Hcnt := Lib.hid HW8.out.count
          have HWlt := Lib.hid HWr.out.lt
          have HBr8 := Lib.hid (HBr.out.trans (hbx8.b.mono (Nat.le_of_lt HWlt.out)))
          clear hbx8 Hbx Hrange Hone Hi1 Hi2 Hsz2 hgw hfv
          by_cases hbig : 4096 < c' + 1
          · have hbigI : (4096 : Int) < (c' : Int) + 1 := by omega
            have hfin := Lib.hid (show thr look (n + 1) id d c fs = (3, c' + 1, fs') by
              rw [hthr.out, Hstep.out]
              unfold thrL
              rw [if_pos hbig])
            go_wp2_with fail
            go_ret
            exact ⟨by rw [hfin.out]; rfl, by rw [hfin.out]; exact Hcnt.out.1, HBr8.out.trans Hcnt.out.2⟩
          · have hbigI : ¬ (4096 : Int) < (c' : Int) + 1 := by omega
            go_upto_region 10 with fail
            obtain ⟨hW9, hB9⟩ := Hcnt.out
            have hsz9 : (w8.setCell ⟨gw, 2, none⟩ (.int .i64 ((c' : Int) + 1))).heap.size = w8.heap.size := by simp [World.setCell]
            have hbx9 : ∀ j y, (entV (nm, tr, xi, ()))[j]? = some y → (w8.setCell ⟨gw, 2, none⟩ (.int .i64 ((c' : Int) + 1))).cell? ⟨wr.heap.size, j, none⟩ = some y := fun j y hy => by
              have := HBx8.out.r j y hy
              simpa [World.cell?, Below.heap_setCell w8 ⟨gw, 2, none⟩ (.int .i64 ((c' : Int) + 1)) wr.heap.size (by show wr.heap.size ≠ gw; have := HWlt.out; omega)] using this
            generalize w8.setCell ⟨gw, 2, none⟩ (.int .i64 ((c' : Int) + 1)) = w9 at *
            have HBr9 := Lib.hid (HBr8.out.trans hB9)
            have HW9 := Lib.hid hW9
            have Hbx9 := Lib.hid hbx9
            have Hsz9 := Lib.hid (show wr.heap.size < w9.heap.size by rw [hsz9]; exact HBx8.out.lt)
            obtain ⟨fv9, hgw9, -⟩ := hW9.f
            have kd2 : w9.cell? ⟨gw, 2, none⟩ = some (.int .i64 ((c' + 1 : Nat) : Int)) := block_cell hgw9 2
            rw [show ((c' + 1 : Nat) : Int) = (c' : Int) + 1 by omega] at kd2
            have kn0 := hbx9 0 (.string nm) rfl
            have HJ := Lib.hid (pjoin_any (.slice (some ⟨w9.heap.size, 0, none⟩) 2 2) [d, nm] (w9.alloc (.cells #[.string d, .string nm] 9)) (strs_cells (zs := [d, nm]) (by have h := heap_alloc_new w9 (.cells #[.string d, .string nm] 9); simpa using h) (by unfold maxLen; simp)) (by have := Hd.out; have := Hn.out; simp [cnt]; omega))
            have hjz := jn_size d nm
            obtain ⟨pj, hpj⟩ : ∃ y, y = jn d nm := ⟨_, rfl⟩
            rw [show joinS [d, nm] = pj from hpj.symm] at HJ
            rw [← hpj] at hjz
            have Hpj := Lib.hid hpj
            clear hW9 hB9 hsz9 hbx9 hgw9 hpj Hcnt kc2 kf2 HW8 HBr8 HBx8
            go_wp2_with fail
            refine HJ.out.mono ?_
            rintro e w10 ⟨rfl, hB10⟩
            have hBa := ((Below.refl w9.heap.size w9).alloc (Nat.le_refl _) (.cells #[.string d, .string nm] 9)).trans (hB10.mono (by simp))
            have HBa := Lib.hid hBa
            have HW10 := Lib.hid (HW9.out.below hBa)
            have HBr10 := Lib.hid (HBr9.out.trans (hBa.mono (Nat.le_of_lt HW9.out.lt)))
            have Hbx10 := Lib.hid (fun j y (hy : (entV (nm, tr, xi, ()))[j]? = some y) => (hBa.cell (p := ⟨wr.heap.size, j, none⟩) Hsz9.out).trans (Hbx9.out j y hy))
            have ke1 := Hbx10.out 1 (.bool tr) rfl
            have Hsz10 := Lib.hid (Nat.lt_of_lt_of_le Hsz9.out hBa.size)
            clear hB10 hBa HJ HW9 HBr9 Hbx9 HBa
            cases tr with
            | false =>
              have hnext := Lib.hid (show thrL (thr look n) d a c fs = thrL (thr look n) d (a.drop (k + 1)) (c' + 1) (fs' ++ [(pj, xi, ())]) by
                rw [Hstep.out]
                conv => lhs; unfold thrL
                rw [if_neg hbig, if_pos rfl, Hpj.out])
              go_upto_region 14 with fail
              obtain ⟨fv, hgw, hfv⟩ := HW10.out.f
              have Hgw := Lib.hid hgw
              have Hfv := Lib.hid hfv
              have HLi := Lib.hid (fun wx (hx : Below w10.heap.size w10 wx) => run_loadVar_mid37 (x := wx) (B := wr.heap.size) (o := 2) (l := xi) (fun j y hy => (hx.cell (p := ⟨wr.heap.size, 2 + j, none⟩) Hsz10.out).trans (Hbx10.out (2 + j) y (by rw [Nat.add_comm 2 j]; exact hy))) Hxi.out)
              have hd4 : Below w10.heap.size w10 w10.drew := (Below.refl _ _).drew
              have hgN : gw ≤ w10.drew.heap.size := Nat.le_of_lt HW10.out.lt
              clear hgw hfv
              have hRL : ∃ Rs : List (Value → World → Prop), Rs = [K3.PureV (.pointer (some ⟨gw, 0, none⟩)),
                  K3.PureV (.pointer (some ⟨gw, 0, none⟩)),
                  K3.PureV (.pointer (some ⟨gw, 0, none⟩)),
                  K3.PureV (.pointer (some ⟨gw, 1, none⟩)),
                  FvV gw b (c' + 1) fs' fv w10,
                  K3.PureV (.string pj),
                  K3.PureV (.pointer (some ⟨wr.heap.size, 2, none⟩)),
                  K3.PureV (.agg (bytV xi).toArray),
                  K3.PureV (.agg (pidV (pj, xi, ())).toArray),
                  K3.NewB 1 (pidV (pj, xi, ())).toArray 40,
                  ApV gw b (c' + 1) (fs' ++ [(pj, xi, ())]) fv w10,
                  K3.PureV (.pointer (some ⟨gw, 0, none⟩)),
                  K3.PureV (.pointer (some ⟨gw, 1, none⟩)),
                  StW gw b (c' + 1) (fs' ++ [(pj, xi, ())]) w10] := ⟨_, rfl⟩
              obtain ⟨Rs, hRs⟩ := hRL
              refine K3.wp_region_rel2 gw hgN (K3.RL Rs) [2, 2, 2, 2, 1, 2, 2, 2, 2, 1, 1, 2, 2, 1] [1, 1, 1, 1, 1, 1, 1, 1, 1, 1, 2, 1, 1, 2] [[], [], [], [], [], [], [], [], [], [], [4, 9], [], [], [4, 9, 10]] (by kernel_rfl) (by kernel_rfl) (K3.RL.st1 (by rw [hRs]; exact K3.st1_cons (K3.PureV.st1 _) (K3.st1_cons (K3.PureV.st1 _) (K3.st1_cons (K3.PureV.st1 _) (K3.st1_cons (K3.PureV.st1 _) (K3.st1_cons (FvV.st1 _ _ _ _ _ _) (K3.st1_cons (K3.PureV.st1 _) (K3.st1_cons (K3.PureV.st1 _) (K3.st1_cons (K3.PureV.st1 _) (K3.st1_cons (K3.PureV.st1 _) (K3.st1_cons (K3.NewB.st1 _ _ _) (K3.st1_cons (ApV.st1 _ _ _ _ _ _) (K3.st1_cons (K3.PureV.st1 _) (K3.st1_cons (K3.PureV.st1 _) (K3.st1_cons (StW.st1 _ _ _ _ _) (K3.st1_nil)))))))))))))))) (K3.RL.st2 (by rw [hRs]; exact K3.st2_cons (K3.PureV.st2 _ _ _) (K3.st2_cons (K3.PureV.st2 _ _ _) (K3.st2_cons (K3.PureV.st2 _ _ _) (K3.st2_cons (K3.PureV.st2 _ _ _) (K3.st2_skip (K3.st2_cons (K3.PureV.st2 _ _ _) (K3.st2_cons (K3.PureV.st2 _ _ _) (K3.st2_cons (K3.PureV.st2 _ _ _) (K3.st2_cons (K3.PureV.st2 _ _ _) (K3.st2_skip (K3.st2_skip (K3.st2_cons (K3.PureV.st2 _ _ _) (K3.st2_cons (K3.PureV.st2 _ _ _) (K3.st2_skip (K3.st2_nil)))))))))))))))) ?_ ?_ ?_
              · intro i o d hi hd
                have hmem := List.mem_of_getElem? hi
                simp only [List.mem_cons, List.not_mem_nil, or_false] at hmem
                rcases hmem with rfl | rfl | rfl | rfl | rfl | rfl | rfl | rfl | rfl | rfl | rfl | rfl | rfl | rfl <;> simp at hd <;> (subst hd; simp)
              · refine K3.rel_start (Φ := K3.Hop _ _ _ _ _ _ _) ?_
                refine K3.rel_cons (Φ := K3.Hop _ _ _ _ _ _ _) (k := 0) ?_ ?_
                · intro fa fw hfB hfN hfE hfk hft
                  have k0 : fa.eval (.tmp 0) = .pointer (some ⟨gw, 0, none⟩) := hft 0 (K3.mem_looks (by kernel_rfl)) (K3.noneed (by kernel_rfl))
                  rw [hRs]
                  refine K3.hop_plain rfl ?_
                  refine K3.out_move rfl ?_
                  exact ⟨k0, Below.refl _ _⟩
                refine K3.rel_cons (Φ := K3.Hop _ _ _ _ _ _ _) (k := 1) ?_ ?_
                · intro fa fw hfB hfN hfE hfk hft
                  have k0 : fa.eval (.tmp 0) = .pointer (some ⟨gw, 0, none⟩) := hft 0 (K3.mem_looks (by kernel_rfl)) (K3.noneed (by kernel_rfl))
                  rw [hRs]
                  refine K3.hop_plain rfl ?_
                  refine K3.out_move rfl ?_
                  exact ⟨k0, Below.refl _ _⟩
                refine K3.rel_cons (Φ := K3.Hop _ _ _ _ _ _ _) (k := 2) ?_ ?_
                · intro fa fw hfB hfN hfE hfk hft
                  have k58 : fa.eval (.tmp 58) = (.pointer (some ⟨gw, 0, none⟩)) := by have := hfk 1 (K3.mem_needs (by kernel_rfl)) _ rfl; rw [hRs] at this; exact this
                  rw [hRs]
                  refine K3.hop_plain rfl ?_
                  have kc : ∀ v, fa.eval (.const v) = v := fun _ => rfl
                  generalize fa.eval = ρ at *
                  exact K3.out_run (v := .pointer (some ⟨gw, 0, none⟩)) (w' := fw) (by simp [execOp, kc, k58, go_sem]) ⟨rfl, Below.refl _ _⟩
                refine K3.rel_cons (Φ := K3.Hop _ _ _ _ _ _ _) (k := 3) ?_ ?_
                · intro fa fw hfB hfN hfE hfk hft
                  have k59 : fa.eval (.tmp 59) = (.pointer (some ⟨gw, 0, none⟩)) := by have := hfk 2 (K3.mem_needs (by kernel_rfl)) _ rfl; rw [hRs] at this; exact this
                  rw [hRs]
                  refine K3.hop_plain rfl ?_
                  have kc : ∀ v, fa.eval (.const v) = v := fun _ => rfl
                  generalize fa.eval = ρ at *
                  exact K3.out_run (v := .pointer (some ⟨gw, 1, none⟩)) (w' := fw) (by simp [execOp, kc, k59, go_sem]) ⟨rfl, Below.refl _ _⟩
                refine K3.rel_cons (Φ := K3.Hop _ _ _ _ _ _ _) (k := 4) ?_ ?_
                · intro fa fw hfB hfN hfE hfk hft
                  have hE : Below w10.drew.heap.size w10.drew fw := hfE (by kernel_rfl)
                  have k60 : fa.eval (.tmp 60) = (.pointer (some ⟨gw, 1, none⟩)) := by have := hfk 3 (K3.mem_needs (by kernel_rfl)) _ rfl; rw [hRs] at this; exact this
                  rw [hRs]
                  refine K3.hop_plain rfl ?_
                  have hbl := hd4.trans (hE.mono hd4.size)
                  have hgx := (hbl.block _ (lt_of_block Hgw.out)).trans Hgw.out
                  exact out_load3 rfl k60 (by simp [go_sem, block_cell hgx]) ⟨⟨rfl, gen_own_below Hfv.out hbl, hgx, hbl.mono (Nat.le_of_lt HW10.out.lt)⟩, Below.refl _ _⟩
                refine K3.rel_cons (Φ := K3.Hop _ _ _ _ _ _ _) (k := 5) ?_ ?_
                · intro fa fw hfB hfN hfE hfk hft
                  have k13 : fa.eval (.tmp 13) = .string pj := hft 13 (K3.mem_looks (by kernel_rfl)) (K3.noneed (by kernel_rfl))
                  rw [hRs]
                  refine K3.hop_plain rfl ?_
                  refine K3.out_move rfl ?_
                  exact ⟨k13, Below.refl _ _⟩
                refine K3.rel_cons (Φ := K3.Hop _ _ _ _ _ _ _) (k := 6) ?_ ?_
                · intro fa fw hfB hfN hfE hfk hft
                  have k12 : fa.eval (.tmp 12) = .pointer (some ⟨wr.heap.size, 0, none⟩) := hft 12 (K3.mem_looks (by kernel_rfl)) (K3.noneed (by kernel_rfl))
                  rw [hRs]
                  refine K3.hop_plain rfl ?_
                  have kc : ∀ v, fa.eval (.const v) = v := fun _ => rfl
                  generalize fa.eval = ρ at *
                  exact K3.out_run (v := .pointer (some ⟨wr.heap.size, 2, none⟩)) (w' := fw) (by simp [execOp, kc, k12, go_sem]) ⟨rfl, Below.refl _ _⟩
                refine K3.rel_cons (Φ := K3.Hop _ _ _ _ _ _ _) (k := 7) ?_ ?_
                · intro fa fw hfB hfN hfE hfk hft
                  have hE : Below w10.drew.heap.size w10.drew fw := hfE (by kernel_rfl)
                  have k63 : fa.eval (.tmp 63) = (.pointer (some ⟨wr.heap.size, 2, none⟩)) := by have := hfk 6 (K3.mem_needs (by kernel_rfl)) _ rfl; rw [hRs] at this; exact this
                  rw [hRs]
                  refine K3.hop_plain rfl ?_
                  exact out_load3 rfl k63 (HLi.out fw (hd4.trans (hE.mono hd4.size))) ⟨rfl, Below.refl _ _⟩
                refine K3.rel_cons (Φ := K3.Hop _ _ _ _ _ _ _) (k := 8) ?_ ?_
                · intro fa fw hfB hfN hfE hfk hft
                  have k62 : fa.eval (.tmp 62) = (.string pj) := by have := hfk 5 (K3.mem_needs (by kernel_rfl)) _ rfl; rw [hRs] at this; exact this
                  have k64 : fa.eval (.tmp 64) = (.agg (bytV xi).toArray) := by have := hfk 7 (K3.mem_needs (by kernel_rfl)) _ rfl; rw [hRs] at this; exact this
                  rw [hRs]
                  refine K3.hop_plain rfl ?_
                  exact out_build3 rfl (by simp only [List.map_toArray, List.map_cons, List.map_nil, k62, k64]) (build_pid fw pj xi Hxi.out) ⟨rfl, Below.refl _ _⟩
                refine K3.rel_cons (Φ := K3.Hop _ _ _ _ _ _ _) (k := 9) ?_ ?_
                · intro fa fw hfB hfN hfE hfk hft
                  have k65 : fa.eval (.tmp 65) = (.agg (pidV (pj, xi, ())).toArray) := by have := hfk 8 (K3.mem_needs (by kernel_rfl)) _ rfl; rw [hRs] at this; exact this
                  rw [hRs]
                  refine K3.hop_plain rfl ?_
                  exact out_bslice8 rfl (by simp only [List.map_toArray, List.map_cons, List.map_nil, k65]) (slice_one eltP fw (pj, xi, ()) (pidV_len Hxi.out) (by decide)) ⟨⟨_, rfl, heap_alloc_new _ _⟩, (Below.refl _ _).alloc (Nat.le_refl _) _⟩
                refine K3.rel_cons (Φ := K3.Hop _ _ _ _ _ _ _) (k := 10) ?_ ?_
                · intro fa fw hfB hfN hfE hfk hft
                  have k61 : (FvV gw b (c' + 1) fs' fv w10) (fa.eval (.tmp 61)) fw := by have := hfk 4 (K3.mem_needs (by kernel_rfl)) _ rfl; rw [hRs] at this; exact this
                  have k66 : (K3.NewB 1 (pidV (pj, xi, ())).toArray 40) (fa.eval (.tmp 66)) fw := by have := hfk 9 (K3.mem_needs (by kernel_rfl)) _ rfl; rw [hRs] at this; exact this
                  rw [hRs]
                  refine K3.hop_plain rfl ?_
                  obtain ⟨he, ho0, hg0, hbl0⟩ := k61
                  obtain ⟨B1, hb1, hb2⟩ := k66
                  obtain ⟨v', w', hr, ho, hg⟩ := run_append_gen eltP fw (gw + 1) _ _ _ _ [(pj, xi, ())] ho0 (LAt.block (pidV_len Hxi.out) rfl hb2) (by have := Hf'.out; simp only [List.length_cons, List.length_nil]; omega) (by unfold maxLen; have := Hf'.out; simp only [List.length_cons, List.length_nil]; omega) (by have := lt_of_block hg0; omega)
                  have hne : ∀ q, fv.ownBlock = some q → gw + 1 ≤ q := fun q hq => (ho0.lt q hq).1
                  have hBg : Below gw fw w' := (Below.refl _ _).grown hg (Nat.le_of_lt (lt_of_block hg0)) (fun q hq => by have := hne q hq; omega)
                  refine out_append_k8 (.tmp 61) (.tmp 66) 35 rfl he hb1 hr ⟨⟨by rw [List.length_append, LF_app]; exact ho, (hg.block gw (lt_of_block hg0) (fun e => by have := hne gw e.symm; omega)).trans hg0, hbl0.trans hBg⟩, hBg⟩
                refine K3.rel_cons (Φ := K3.Hop _ _ _ _ _ _ _) (k := 11) ?_ ?_
                · intro fa fw hfB hfN hfE hfk hft
                  have k57 : fa.eval (.tmp 57) = (.pointer (some ⟨gw, 0, none⟩)) := by have := hfk 0 (K3.mem_needs (by kernel_rfl)) _ rfl; rw [hRs] at this; exact this
                  rw [hRs]
                  refine K3.hop_plain rfl ?_
                  have kc : ∀ v, fa.eval (.const v) = v := fun _ => rfl
                  generalize fa.eval = ρ at *
                  exact K3.out_run (v := .pointer (some ⟨gw, 0, none⟩)) (w' := fw) (by simp [execOp, kc, k57, go_sem]) ⟨rfl, Below.refl _ _⟩
                refine K3.rel_cons (Φ := K3.Hop _ _ _ _ _ _ _) (k := 12) ?_ ?_
                · intro fa fw hfB hfN hfE hfk hft
                  have k68 : fa.eval (.tmp 68) = (.pointer (some ⟨gw, 0, none⟩)) := by have := hfk 11 (K3.mem_needs (by kernel_rfl)) _ rfl; rw [hRs] at this; exact this
                  rw [hRs]
                  refine K3.hop_plain rfl ?_
                  have kc : ∀ v, fa.eval (.const v) = v := fun _ => rfl
                  generalize fa.eval = ρ at *
                  exact K3.out_run (v := .pointer (some ⟨gw, 1, none⟩)) (w' := fw) (by simp [execOp, kc, k68, go_sem]) ⟨rfl, Below.refl _ _⟩
                refine K3.rel_cons (Φ := K3.Hop _ _ _ _ _ _ _) (k := 13) ?_ ?_
                · intro fa fw hfB hfN hfE hfk hft
                  have k69 : fa.eval (.tmp 69) = (.pointer (some ⟨gw, 1, none⟩)) := by have := hfk 12 (K3.mem_needs (by kernel_rfl)) _ rfl; rw [hRs] at this; exact this
                  have k67 : (ApV gw b (c' + 1) (fs' ++ [(pj, xi, ())]) fv w10) (fa.eval (.tmp 67)) fw := by have := hfk 10 (K3.mem_needs (by kernel_rfl)) _ rfl; rw [hRs] at this; exact this
                  rw [hRs]
                  refine K3.hop_plain rfl ?_
                  obtain ⟨ho, hg, hbl⟩ := k67
                  obtain ⟨p7, c7, hv7⟩ := own_slice2 ho
                  have hBs : Below gw fw (fw.setCell ⟨gw, 1, none⟩ (.slice p7 (fs' ++ [(pj, xi, ())]).length c7)) := Below.setCell (B := gw) (Below.refl gw fw) (p := ⟨gw, 1, none⟩) (Nat.le_refl gw) _
                  have h9 : (fw.setCell ⟨gw, 1, none⟩ (.slice p7 (fs' ++ [(pj, xi, ())]).length c7)).ownsRow (gw + 1) 40 33 (.slice p7 (fs' ++ [(pj, xi, ())]).length c7) (fs' ++ [(pj, xi, ())]).length (LF pidV (fs' ++ [(pj, xi, ())])) := by rw [← hv7]; exact ownsRow_setCell_below (a := ⟨gw, 1, none⟩) ho (by show gw < gw + 1; omega) _
                  refine out_store70 (x := .tmp 69) (y := .tmp 67) rfl k69 hv7 hg (by simp) ⟨⟨⟨.slice p7 (fs' ++ [(pj, xi, ())]).length c7, by rw [set_box8 hg]; rfl, h9⟩, hbl.trans hBs⟩, hBs⟩
                exact K3.rel_nil
              · intro fa fw hfB hfy hff hfs hfd
                rw [hRs] at hfy
                have k13 := hfy 13 _ rfl (K3.unkilled (by decide))
                have e := K3.rel_frame [57, 58, 59, 60, 61, 62, 63, 64, 65, 66, 67, 68, 69] (by kernel_rfl) hff hfs hfd
                simp only [List.foldl] at e
                clear hfy hff hfs hfd 
                generalize fa.tmps.getD 57 undef = x57 at e
                generalize fa.tmps.getD 58 undef = x58 at e
                generalize fa.tmps.getD 59 undef = x59 at e
                generalize fa.tmps.getD 60 undef = x60 at e
                generalize fa.tmps.getD 61 undef = x61 at e
                generalize fa.tmps.getD 62 undef = x62 at e
                generalize fa.tmps.getD 63 undef = x63 at e
                generalize fa.tmps.getD 64 undef = x64 at e
                generalize fa.tmps.getD 65 undef = x65 at e
                generalize fa.tmps.getD 66 undef = x66 at e
                generalize fa.tmps.getD 67 undef = x67 at e
                generalize fa.tmps.getD 68 undef = x68 at e
                generalize fa.tmps.getD 69 undef = x69 at e
                simp [List.setIfInBounds_toArray, List.set_cons_succ, List.set_cons_zero] at e
                subst e
                have HWn := Lib.hid k13.k
                have HBn := Lib.hid (HBr10.out.trans k13.bl)
                clear k13 hfB
                go_wp2_with fail
                go_roundg (gk - 1)
                case measure => omega
                case rel => exact ⟨k + 1, c' + 1, fs' ++ [(pj, xi, ())], by omega, by go_num, hnext.out, by omega, by have := Hf'.out; rw [List.length_append, List.length_singleton]; omega, HWn.out, HBn.out⟩
            | true =>
              have hmid : w10.rangeAt wr.heap.size 2 (bytV xi) := fun j y hy => Hbx10.out (2 + j) y (by rw [Nat.add_comm 2 j]; exact hy)
              have Hmid := Lib.hid hmid
              have hab : (ab : Int) + 1 = ((ab + 1 : Nat) : Int) := by omega
              have HIH := Lib.hid (Hih.out xi pj (c' + 1) fs' (ab + 1) (w := w10) (HLw.out.below HBr10.out) HW10.out Hxi.out (by have := Hn.out; omega) (by have := Hd.out; omega) (by omega) (by have := Hf'.out; omega))
              rw [← hab] at HIH
              have hok := thr_okr look n xi pj (c' + 1) fs' (by omega) (by have := Hf'.out; omega)
              obtain ⟨rr, hrr⟩ : ∃ y, y = thr look n xi pj (c' + 1) fs' := ⟨_, rfl⟩
              have hstep2 := Hstep.out
              conv at hstep2 => rhs; unfold thrL
              rw [if_neg hbig, if_neg (by simp), Hpj.out.symm, ← hrr] at hstep2
              rw [← hrr] at HIH hok
              obtain ⟨e1, c1, fs1⟩ := rr
              simp only at HIH hstep2
              have Hok := Lib.hid hok
              clear hmid hab hok hrr
              by_cases he1 : e1 = 0
              · subst he1
                rw [if_pos rfl] at hstep2
                have hnext := Lib.hid hstep2
                clear hstep2
                go_wp2_with (first | (refine wpList_load_mid rfl 32 (.tmp 71) rfl wr.heap.size 2 rfl (bytV xi) _ Hmid.out Tryz.underlying32 rfl (by rw [bytV_len, Hxi.out]; kernel_rfl) ?_))
                refine HIH.out.mono ?_
                rintro e w11 ⟨rfl, hW11, hB11⟩
                have HW11 := Lib.hid hW11
                have HB11 := Lib.hid (HBr10.out.trans hB11)
                clear hW11 hB11 HIH
                go_wp2_with fail
                go_roundg (gk - 1)
                case measure => omega
                case rel => exact ⟨k + 1, c1, fs1, by omega, by go_num, hnext.out, Hok.out.2.1 rfl, Hok.out.2.2, HW11.out, HB11.out⟩
              · rw [if_neg he1] at hstep2
                have hfin := Lib.hid (hthr.out.trans hstep2)
                have hne1 : (e1 != 0) = true := by rw [bne_iff_ne]; exact he1
                clear hstep2
                go_wp2_with (first | (refine wpList_load_mid rfl 32 (.tmp 71) rfl wr.heap.size 2 rfl (bytV xi) _ Hmid.out Tryz.underlying32 rfl (by rw [bytV_len, Hxi.out]; kernel_rfl) ?_))
                refine HIH.out.mono ?_
                rintro e w11 ⟨rfl, hW11, hB11⟩
                have HW11 := Lib.hid hW11
                have HB11 := Lib.hid (HBr10.out.trans hB11)
                clear hW11 hB11 HIH
                go_wp2_with fail
                go_ret
                exact ⟨by rw [hfin.out]; rfl, by rw [hfin.out]; exact HW11.out, HB11.out⟩
        · have hnI : ¬ (k : Int) < (len : Int) := by omega
          have hk : k = a.length := by have := Ha.out; omega
          rw [hk, List.drop_length] at Hth
          have hfin := Lib.hid (show thr look (n + 1) id d c fs = (0, c', fs') by rw [hthr.out, Hth.out]; rfl)
          go_wp2_with fail
          go_ret
          exact ⟨by rw [hfin.out]; rfl, by rw [hfin.out]; exact HWr.out, HBr.out⟩
end Go.Proofs.YtdhaanaenklleaaGreatDoor
namespace Go.Proofs.YtdhaanaenklleaaGreatDoor
set_option linter.unusedVariables false
set_option linter.unusedSimpArgs false
open Go.ChangeShapes Go.WideShapes Go.ChangeAt Go.RowKit

theorem wpList_load_row_g8 {ops : Array Oper} {rest : List Oper} {o : Oper} {a : Act} {w : World} {Q : Exit → Act → World → Prop} (hw : Region.wanted o (yielded ops a.tmps) = true) (ty : TypeId) (x : Operand) (ho : o.op = .load ty x)
    (g : Nat) (hx : a.eval x = .pointer (some ⟨g, 0, none⟩)) (t : TypeId) (cs : Array Value) (fr : Nat × Nat) {n : Nat} {e : TypeId} (hg : w.heap[g]? = some (.cells cs t fr))
    (hu : Tryz.prog.underlying ty = some (.array n e)) (hi : (Tryz.prog.info? ty).map (·.size) = some cs.size)
    (h : wpList Tryz.prog ops Q rest (a.put o.dst (.agg cs)) w) : wpList Tryz.prog ops Q (o :: rest) a w :=
  Go.BigFrame.wpList_want hw fun _ hK => wp_load_row ty x ho g hx t cs fr _ hg hu rfl hi (hK _ _ h)
/-- Entries as the store has them. -/
def okA (a : List Ent) : Prop := (∀ e ∈ a, e.1.size ≤ 65536 ∧ e.2.2.1.length = 32) ∧ a.length ≤ 65536
theorem Hav.look {T X : Nat → Prop} {b nc nb nt : Nat} {fc : List UInt8 → Option Value} {AB : List ByteArray} {AT : List (List Ent)} {w : World} (h : Hav T X b fc nc AB AT nb nt w) (hok : ∀ a ∈ AT, okA a) :
    ∃ look : List UInt8 → Option (List Ent), Lk w.heap.size b look w ∧ (∀ x a, look x = some a → a ∈ AT ∧ x = tid (treeB a)) ∧ (∀ a ∈ AT, (look (tid (treeB a))).isSome = true) := by
  obtain ⟨hl, hx, fb, ft, hS, h2, h3, h4, h5⟩ := h
  obtain ⟨m1, m2, m3, s1, s2, s3, s4, s5, s6⟩ := hS.f
  have hch : ∀ x, ∃ o : Option (List Ent), (match o with
      | none => ft x = none
      | some a => ∃ r, ft x = some r ∧ LAt 34 entV w r a ∧ (∀ g o n c, r = .slice (some ⟨g, o, none⟩) n c → g < w.heap.size) ∧ (∀ e ∈ a, e.1.size ≤ 65536 ∧ e.2.2.1.length = 32) ∧ a.length ≤ 65536) ∧ ∀ a, o = some a → a ∈ AT ∧ x = tid (treeB a) := fun x => by
    cases hf : ft x with
    | none => exact ⟨none, by simp, fun a h => by cases h⟩
    | some r =>
      obtain ⟨a, ha, e, base, r1, r2, r3⟩ := h4 x r hf
      have ho := hok a ha
      refine ⟨some a, ⟨r, by simp, LAt.own (e := 58) (fun y hy => entV_len (ho.1 y hy).2) r2, fun g o n c e => ?_, ho.1, ho.2⟩, fun a' h => by injection h with h; subst h; exact ⟨ha, e⟩⟩
      exact (own_lt r2 (q := g) (by rw [e]; rfl)).2
  refine ⟨fun x => (hch x).choose, ⟨m1, m2, m3, ft, nt, s1, s3, lt_of_block s1, s3.lt, fun x => (hch x).choose_spec.1⟩, fun x a h => (hch x).choose_spec.2 a h, fun a ha => ?_⟩
  have h6 := (hch (tid (treeB a))).choose_spec.1
  cases hc : (hch (tid (treeB a))).choose with
  | none =>
    rw [hc] at h6
    have h7 := h5 a ha
    rw [show ft (tid (treeB a)) = none from h6] at h7
    cases h7
  | some v =>
    show (hch (tid (treeB a))).choose.isSome = true
    rw [hc]; rfl
def FilesEnd (r : Int × Nat × List PId) (w : World) (e : Ending) (w' : World) : Prop :=
  ∃ v, e = .returned (.tuple #[v, .int .i64 r.1]) ∧ (¬ r.1 = 0 → v = .slice none 0 0) ∧ (r.1 = 0 → w'.ownsRow w.heap.size 40 33 v r.2.2.length (LF pidV r.2.2)) ∧ Below w.heap.size w w'
set_option maxRecDepth 100000 in
set_option maxHeartbeats 4000000 in
theorem files59_any {b : Nat} {look : List UInt8 → Option (List Ent)} {w : World} (hL : Lk w.heap.size b look w) (id : List UInt8) (hid : id.length = 32) :
    Calls Tryz.prog 14 #[.pointer (some ⟨b, 0, none⟩), .agg (bytV id).toArray] w (FilesEnd (thr look 16 id nilB 0 []) w) := by
  have hB1 := (Below.refl w.heap.size w).alloc (Nat.le_refl _) (.cells (bytV id).toArray 32)
  have hG1 := heap_alloc_new w (.cells (bytV id).toArray 32)
  have hs1 : (w.alloc (.cells (bytV id).toArray 32)).heap.size = w.heap.size + 1 := by simp
  have hB2 := (Below.refl (w.alloc (.cells (bytV id).toArray 32)).heap.size (w.alloc (.cells (bytV id).toArray 32))).alloc (Nat.le_refl _) (.cells #[.pointer (some ⟨b, 0, none⟩), .slice none 0 0, .int .i64 0] 89)
  have hG2 := heap_alloc_new (w.alloc (.cells (bytV id).toArray 32)) (.cells #[.pointer (some ⟨b, 0, none⟩), .slice none 0 0, .int .i64 0] 89)
  have HB := Lib.hid (hB1.trans (hB2.mono hB1.size))
  have HG := Lib.hid ((hB2.block _ (lt_of_block hG1)).trans hG1)
  have hLw := (hL.below HB.out).mono (B2 := w.heap.size + 1) (by omega)
  rw [hs1] at hG2
  have hWk : Wk (w.heap.size + 1) b 0 [] ((w.alloc (.cells (bytV id).toArray 32)).alloc (.cells #[.pointer (some ⟨b, 0, none⟩), .slice none 0 0, .int .i64 0] 89)) := ⟨.slice none 0 0, hG2, ⟨rfl, .inl ⟨rfl, rfl⟩⟩⟩
  have HT := Lib.hid (through_any (w.heap.size + 1) b look 16 id nilB 0 [] 0 hLw hWk hid rfl (by decide) (by omega) (by simp))
  have Hz := Lib.hid (id_size hid)
  have hbl : (bytV id).length = 32 := by rw [bytV_len, hid]
  unfold nilB at HT
  obtain ⟨r, hr⟩ : ∃ r, r = thr look 16 id ⟨#[]⟩ 0 [] := ⟨_, rfl⟩
  rw [show thr look 16 id nilB 0 [] = r from hr.symm]
  rw [← hr] at HT
  clear hL hB1 hB2 hG1 hG2 hs1 hLw hWk hr hid
  obtain ⟨e1, c1, fs1⟩ := r
  simp only at HT
  go_enter Tryz.func14, Tryz.ntmps14
  go_upto_region 4 with fail
  generalize (w.alloc (.cells (bytV id).toArray 32)).alloc (.cells #[.pointer (some ⟨b, 0, none⟩), .slice none 0 0, .int .i64 0] 89) = w1 at *
  go_wp2_with (first | (refine wpList_load_row rfl 32 (.tmp 3) rfl w.heap.size rfl 32 (bytV id).toArray (0, 0) _ HG.out Tryz.underlying32 rfl Hz.out ?_))
  refine HT.out.mono ?_
  rintro e w2 ⟨rfl, hW2, hB2⟩
  obtain ⟨fv, hg, hfv⟩ := hW2.f
  have kc1 : w2.cell? ⟨w.heap.size + 1, 1, none⟩ = some fv := block_cell hg 1
  have Hfv := Lib.hid hfv
  have HB2 := Lib.hid (HB.out.trans (hB2.mono (by omega)))
  clear hW2 hB2 hg hfv HT
  by_cases he : e1 = 0
  · subst he
    go_wp2_with fail
    go_ret2
    exact ⟨fv, rfl, fun h => absurd rfl h, fun _ => World.ownsRow.mono Hfv.out (by omega), HB2.out⟩
  · have hne : (e1 != 0) = true := by rw [bne_iff_ne]; exact he
    go_wp2_with fail
    go_ret2
    exact ⟨.slice none 0 0, rfl, fun _ => rfl, fun h => absurd h he, HB2.out⟩
theorem why_nil : whyF [] = 0 := rfl
theorem bld_nil : bldE 80 nilB [] = [] := rfl
theorem blds_nil : bldT 80 nilB [] = [[]] := rfl
theorem okA_nil : okA [] := ⟨fun e h => (by cases h), Nat.zero_le _⟩
set_option maxRecDepth 100000 in
set_option maxHeartbeats 4000000 in
theorem alive8_any (w : World) (hK : S.KeysAt w) (hM : MaxAt w) : Calls Tryz.prog 8 #[] w fun e w' => e = .returned (.bool true) ∧ Below w.heap.size w w' := by
  have HK := Lib.hid hK
  have HM := Lib.hid hM
  have hM1 := hM.1
  clear hK hM
  go_enter Tryz.func8, Tryz.ntmps8
  go_wp2_with fail
  refine (new_any w).mono ?_
  rintro e w1 ⟨b, rfl, hS, hB1⟩
  have hH : Hav (fun k => w.heap.size ≤ k ∧ k < w1.heap.size) (fun _ => False) b (fun _ => none) 0 [] [] 0 0 w1 :=
    ⟨fun q hq => ⟨by omega, hq.2⟩, fun q hq => hq.elim, _, _, hS, fun x v h => by (cases h), fun s h => by (cases h), fun x r h => by (cases h), fun a h => by (cases h)⟩
  have HT1 := Lib.hid (show ∀ q, (w.heap.size ≤ q ∧ q < w1.heap.size) → 1 < q from fun q hq => by omega)
  have HTb := Lib.hid (show ∀ q, (w.heap.size ≤ q ∧ q < w1.heap.size) → w.heap.size ≤ q from fun q hq => hq.1)
  have HK1 := Lib.hid (HK.out.below HK.out.1 (hB1.mono (by omega)) : S.KeysAt w1)
  have HM1 := Lib.hid (HM.out.below hB1)
  have HB1 := Lib.hid hB1
  have HBu := Lib.hid (build_any hH HK1.out HM1.out (.slice none 0 0) [] (.inl ⟨⟨_, _, rfl⟩, rfl⟩) (by simp) (fun x hx => by cases hx) (fun _ x hx => by cases hx) (by omega) (by omega))
  clear hS hB1 hH
  go_wp2_with fail
  refine HBu.out.mono ?_
  rintro e w2 (⟨h, _⟩ | ⟨_, l', hp, -, -, rfl, nb', nt', hH2, hG2, hK2⟩)
  · exact absurd why_nil h
  obtain rfl : l' = [] := List.Perm.eq_nil hp
  rw [blds_nil] at hH2 hG2
  rw [bld_nil]
  have hnb : nb' = 0 := by have := hG2.lb; simpa [datF] using this
  have hnt : nt' = 1 := by
    have h1 := hG2.lt
    have h2 := hG2.t1 ⟨[], by simp, fun ⟨x, hx, _⟩ => by cases hx⟩
    simp at h1
    omega
  subst hnb; subst hnt
  have hH2' : Hav (fun k => w.heap.size ≤ k ∧ k < w1.heap.size) (fun _ => False) b (fun _ => none) 0 [] [[]] 0 1 w2 := hH2
  obtain ⟨idv, hidv⟩ : ∃ y, y = tid (treeB []) := ⟨_, rfl⟩
  rw [← hidv]
  have Hil := Lib.hid (show idv.length = 32 by rw [hidv]; exact tid_len _)
  have Hidv := Lib.hid hidv
  have Hz := Lib.hid (id_size Hil.out)
  have Hone := Lib.hid (id_one idv)
  have Hs32 := Lib.hid (show (bytV idv).toArray.size = 32 by rw [List.size_toArray, bytV_len, Hil.out])
  have HH2 := Lib.hid hH2'
  have HK2 := Lib.hid hK2
  clear hH2 hG2 hK2 hH2' hidv hp HBu
  go_upto_region 3 with (first | (refine wpList_store_rowTo rfl 32 (.tmp 2) (.tmp 12) rfl rfl w2.heap.size (bytV idv).toArray rfl rfl 32 _ (heap_alloc_new w2 _) Hz.out (by rw [Hs32.out]; rfl) Hone.out ?_))
  have hB4 := below_setRow ((Below.refl w2.heap.size w2).alloc (Nat.le_refl _) (.cells #[.int .u8 0, .int .u8 0, .int .u8 0, .int .u8 0, .int .u8 0, .int .u8 0, .int .u8 0, .int .u8 0, .int .u8 0, .int .u8 0, .int .u8 0, .int .u8 0, .int .u8 0, .int .u8 0, .int .u8 0, .int .u8 0, .int .u8 0, .int .u8 0, .int .u8 0, .int .u8 0, .int .u8 0, .int .u8 0, .int .u8 0, .int .u8 0, .int .u8 0, .int .u8 0, .int .u8 0, .int .u8 0, .int .u8 0, .int .u8 0, .int .u8 0, .int .u8 0] 32)) (g := w2.heap.size) (Nat.le_refl _) (bytV idv).toArray
  have hG4 := setRow_heap (w2.alloc (.cells #[.int .u8 0, .int .u8 0, .int .u8 0, .int .u8 0, .int .u8 0, .int .u8 0, .int .u8 0, .int .u8 0, .int .u8 0, .int .u8 0, .int .u8 0, .int .u8 0, .int .u8 0, .int .u8 0, .int .u8 0, .int .u8 0, .int .u8 0, .int .u8 0, .int .u8 0, .int .u8 0, .int .u8 0, .int .u8 0, .int .u8 0, .int .u8 0, .int .u8 0, .int .u8 0, .int .u8 0, .int .u8 0, .int .u8 0, .int .u8 0, .int .u8 0, .int .u8 0] 32)) w2.heap.size _ (bytV idv).toArray 32 (0, 0) (heap_alloc_new w2 _)
  generalize (w2.alloc (.cells #[.int .u8 0, .int .u8 0, .int .u8 0, .int .u8 0, .int .u8 0, .int .u8 0, .int .u8 0, .int .u8 0, .int .u8 0, .int .u8 0, .int .u8 0, .int .u8 0, .int .u8 0, .int .u8 0, .int .u8 0, .int .u8 0, .int .u8 0, .int .u8 0, .int .u8 0, .int .u8 0, .int .u8 0, .int .u8 0, .int .u8 0, .int .u8 0, .int .u8 0, .int .u8 0, .int .u8 0, .int .u8 0, .int .u8 0, .int .u8 0, .int .u8 0, .int .u8 0] 32)).setRow w2.heap.size (bytV idv).toArray = w4 at *
  have HH4 := Lib.hid (HH2.out.below0 hB4)
  have HG4 := Lib.hid hG4
  have HK4 := Lib.hid (HK2.out.trans (Kp.of_below hB4))
  have hP := hav_tree HH4.out (KeysAt.kp HK1.out HK4.out HT1.out) (MaxAt.kp HM1.out HK4.out HT1.out) (.slice none 0 0) [] (lat_nil w4) (fun x hx => by cases hx) (by simp) treeB_nil (by omega) goodT_nil
  rw [← Hidv.out] at hP
  have HP := Lib.hid hP
  clear hB4 hG4 hP
  go_wp2_with fail
  refine HP.out.mono ?_
  rintro e w5 ⟨rfl, nt5, hH5, hG5, hK5⟩
  have hnt5 : nt5 = 1 := hG5.t (fun a ha => by
    rw [List.mem_singleton.1 ha]
    exact ⟨[], by simp, rfl⟩)
  subst hnt5
  have HH5 := Lib.hid (show Hav (fun k => w.heap.size ≤ k ∧ k < w1.heap.size) (fun _ => False) b (fun _ => none) 0 [] [[], []] 0 1 w5 from hH5)
  have HK5 := Lib.hid (HK4.out.trans hK5)
  have HG5 := Lib.hid ((hK5.block _ (lt_of_block HG4.out) (fun hq => by have := hq.2; have := HK2.out.size; omega)).trans HG4.out)
  clear hH5 hG5 hK5 HP
  go_upto_region 4 with (first | (refine wpList_store_rowTo rfl 32 (.tmp 4) (.tmp 17) rfl rfl w5.heap.size (bytV idv).toArray rfl rfl 32 _ (heap_alloc_new w5 _) Hz.out (by rw [Hs32.out]; rfl) Hone.out ?_))
  have hB6 := below_setRow ((Below.refl w5.heap.size w5).alloc (Nat.le_refl _) (.cells #[.int .u8 0, .int .u8 0, .int .u8 0, .int .u8 0, .int .u8 0, .int .u8 0, .int .u8 0, .int .u8 0, .int .u8 0, .int .u8 0, .int .u8 0, .int .u8 0, .int .u8 0, .int .u8 0, .int .u8 0, .int .u8 0, .int .u8 0, .int .u8 0, .int .u8 0, .int .u8 0, .int .u8 0, .int .u8 0, .int .u8 0, .int .u8 0, .int .u8 0, .int .u8 0, .int .u8 0, .int .u8 0, .int .u8 0, .int .u8 0, .int .u8 0, .int .u8 0] 32)) (g := w5.heap.size) (Nat.le_refl _) (bytV idv).toArray
  have hG6 := setRow_heap (w5.alloc (.cells #[.int .u8 0, .int .u8 0, .int .u8 0, .int .u8 0, .int .u8 0, .int .u8 0, .int .u8 0, .int .u8 0, .int .u8 0, .int .u8 0, .int .u8 0, .int .u8 0, .int .u8 0, .int .u8 0, .int .u8 0, .int .u8 0, .int .u8 0, .int .u8 0, .int .u8 0, .int .u8 0, .int .u8 0, .int .u8 0, .int .u8 0, .int .u8 0, .int .u8 0, .int .u8 0, .int .u8 0, .int .u8 0, .int .u8 0, .int .u8 0, .int .u8 0, .int .u8 0] 32)) w5.heap.size _ (bytV idv).toArray 32 (0, 0) (heap_alloc_new w5 _)
  generalize (w5.alloc (.cells #[.int .u8 0, .int .u8 0, .int .u8 0, .int .u8 0, .int .u8 0, .int .u8 0, .int .u8 0, .int .u8 0, .int .u8 0, .int .u8 0, .int .u8 0, .int .u8 0, .int .u8 0, .int .u8 0, .int .u8 0, .int .u8 0, .int .u8 0, .int .u8 0, .int .u8 0, .int .u8 0, .int .u8 0, .int .u8 0, .int .u8 0, .int .u8 0, .int .u8 0, .int .u8 0, .int .u8 0, .int .u8 0, .int .u8 0, .int .u8 0, .int .u8 0, .int .u8 0] 32)).setRow w5.heap.size (bytV idv).toArray = w6 at *
  have HH6 := Lib.hid (HH5.out.below0 hB6)
  have HG6 := Lib.hid hG6
  have HGb := Lib.hid ((hB6.block _ (lt_of_block HG5.out)).trans HG5.out)
  have HK6 := Lib.hid (HK5.out.trans (Kp.of_below hB6))
  obtain ⟨look, hLk, hlk1, hlk2⟩ := HH6.out.look (fun a ha => by
    simp only [List.mem_cons, List.not_mem_nil, or_false, or_self] at ha
    rw [ha]; exact okA_nil)
  have hfl : thr look 16 idv nilB 0 [] = (0, 0, []) := by
    have h1 := hlk2 [] (by simp)
    rw [← Hidv.out] at h1
    cases hc : look idv with
    | none => rw [hc] at h1; cases h1
    | some a =>
      have h2 := (hlk1 _ _ hc).1
      simp only [List.mem_cons, List.not_mem_nil, or_false, or_self] at h2
      subst h2
      unfold thr
      rw [hc]; rfl
  have hF := files59_any hLk idv Hil.out
  rw [hfl] at hF
  have HF := Lib.hid hF
  clear hB6 hG6 hLk hlk1 hlk2 hfl hF
  go_wp2_with (first | (refine wpList_load_row rfl 32 (.tmp 2) rfl w2.heap.size rfl 32 (bytV idv).toArray (0, 0) _ HGb.out Tryz.underlying32 rfl Hz.out ?_))
  refine HF.out.mono ?_
  rintro e w7 ⟨v, rfl, -, hv, hB7⟩
  have hv0 := hv rfl
  obtain ⟨p7, c7, hv7⟩ := own_slice2 hv0
  subst hv7
  have HH7 := HH6.out.below0 hB7
  obtain ⟨-, -, fb, ft, hS7, -⟩ := HH7
  have HSz := Lib.hid (size_any hS7 (by omega) (by omega) (by omega))
  have HGc := Lib.hid ((hB7.block _ (lt_of_block HGb.out)).trans HGb.out)
  have HGd := Lib.hid ((hB7.block _ (lt_of_block HG6.out)).trans HG6.out)
  have heq := fun v1 => eq_id (a := idv) (b := idv) Hil.out Hil.out v1
  have HKf := Lib.hid (HK6.out.trans (Kp.of_below hB7))
  clear hv hv0 hB7 hS7
  rw [decide_eq_true (rfl : idv = idv)] at heq
  go_wp2_with (first | (refine wpList_load_row_g8 rfl 32 (.tmp 2) rfl w2.heap.size rfl 32 (bytV idv).toArray (0, 0) HGc.out Tryz.underlying32 Hz.out ?_) | (refine wpList_load_row_g8 rfl 32 (.tmp 4) rfl w5.heap.size rfl 32 (bytV idv).toArray (0, 0) HGd.out Tryz.underlying32 Hz.out ?_))
  refine HSz.out.mono ?_
  rintro e w8 ⟨rfl, hB8⟩
  have HB8 := Lib.hid (HKf.out.trans (Kp.of_below hB8))
  clear hB8
  go_wp2_with fail
  go_ret
  refine ⟨rfl, HB1.out.trans ?_⟩
  exact HB8.out.below (fun k hk => hk.1) HB1.out.size
end Go.Proofs.YtdhaanaenklleaaGreatDoor
