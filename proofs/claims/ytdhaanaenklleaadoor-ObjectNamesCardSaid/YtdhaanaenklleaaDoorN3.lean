/- Plain: a tree's bytes, read; An entry is put together of its parts; Walks: a tree's bytes, read by the code; Walks: a tree's bytes, read by the document. -/
import Derived.Test.YtdhaanaenklleaaDoorN2
import Derived.Test.YtdhaanaenklleaaDoorN1
import Derived.Test.YtdhaanaenklleaaDoorSJo
import Derived.Test.YtdhaanaenklleaaDoorSx
import Derived.Test.YtdhaanaenklleaaDoorSJk
import Derived.Laws.Tables
import Derived.Great.BuildSlice
import Derived.Laws.BitsLemmas
namespace Go.Proofs.YtdhaanaenklleaaDoor
set_option linter.unusedVariables false
set_option linter.unusedSimpArgs false
open Go.ChangeShapes Go.WideShapes Go.ChangeAt Go.RowKit

theorem kind_ne : kindB false ≠ kindB true := by decide
def triOk (a d : ByteArray) : Bool := (decide (a = kindB false) || decide (a = kindB true)) && decide (d.size = 32)
def entOf (a n d : ByteArray) : Ent := (n, decide (a = kindB true), d.data.toList, ())
def decE : List ByteArray → Option (List Ent)
  | [] => some []
  | a :: n :: d :: r => if triOk a d = true then (decE r).map (entOf a n d :: ·) else none
  | [_] => none
  | [_, _] => none
theorem decE_cons (a n d : ByteArray) (r : List ByteArray) : decE (a :: n :: d :: r) = if triOk a d = true then (decE r).map (entOf a n d :: ·) else none := rfl
theorem decE_app : ∀ (x : List ByteArray) (L : List Ent) (y : List ByteArray), decE x = some L → decE (x ++ y) = (decE y).map (L ++ ·)
  | [], L, y, h => by
    obtain rfl : [] = L := by simpa [decE] using h
    rw [List.nil_append]
    cases decE y <;> simp
  | [_], L, y, h => by cases h
  | [_, _], L, y, h => by cases h
  | a :: n :: d :: r, L, y, h => by
    rw [decE_cons] at h
    rw [List.cons_append, List.cons_append, List.cons_append, decE_cons]
    by_cases ht : triOk a d = true
    · rw [if_pos ht] at h ⊢
      cases hr : decE r with
      | none => rw [hr] at h; cases h
      | some M =>
        rw [hr] at h
        obtain rfl : entOf a n d :: M = L := by simpa using h
        rw [decE_app r M y hr]
        cases decE y <;> simp
    · rw [if_neg ht] at h; cases h
theorem decE_parts : ∀ l : List Ent, (∀ x ∈ l, x.2.2.1.length = 32) → decE (partsE l) = some l
  | [], _ => rfl
  | (n, td, d, ()) :: l, h => by
    have : partsE ((n, td, d, ()) :: l) = kindB td :: n :: idB d :: partsE l := rfl
    have hd : d.length = 32 := h _ List.mem_cons_self
    have ht : triOk (kindB td) (idB d) = true := by unfold triOk; rw [idB_size, hd]; cases td <;> decide
    have he : entOf (kindB td) n (idB d) = (n, td, d, ()) := by
      unfold entOf idB
      have : decide (kindB td = kindB true) = td := by cases td <;> decide
      rw [this]
    rw [this, decE_cons, if_pos ht, decE_parts l (fun x hx => h x (List.mem_cons_of_mem _ hx)), he]
    rfl
theorem decE_some : ∀ (ps : List ByteArray) (l : List Ent), decE ps = some l → partsE l = ps ∧ ∀ x ∈ l, x.2.2.1.length = 32
  | [], l, h => by
    obtain rfl : [] = l := by simpa [decE] using h
    exact ⟨rfl, by simp⟩
  | [_], l, h => by cases h
  | [_, _], l, h => by cases h
  | a :: n :: d :: r, l, h => by
    rw [decE_cons] at h
    by_cases ht : triOk a d = true
    · rw [if_pos ht] at h
      cases hr : decE r with
      | none => rw [hr] at h; cases h
      | some M =>
        rw [hr] at h
        obtain rfl : entOf a n d :: M = l := by simpa using h
        obtain ⟨h1, h2⟩ := decE_some r M hr
        unfold triOk at ht
        rw [Bool.and_eq_true, Bool.or_eq_true, decide_eq_true_iff, decide_eq_true_iff, decide_eq_true_iff] at ht
        have hp : partsE (entOf a n d :: M) = kindB (decide (a = kindB true)) :: n :: idB d.data.toList :: partsE M := rfl
        have hid : idB d.data.toList = d := by cases d; rfl
        have hk : kindB (decide (a = kindB true)) = a := by
          rcases ht.1 with e | e
          · rw [e]; decide
          · rw [e]; decide
        refine ⟨by rw [hp, hk, hid, h1], fun x hx => ?_⟩
        rcases List.mem_cons.1 hx with rfl | hx
        · show d.data.toList.length = 32
          rw [← Lib.size_eq]; exact ht.2
        · exact h2 x hx
    · rw [if_neg ht] at h; cases h
theorem drop3 {ps : List ByteArray} {q : Nat} (h : 3 * q + 3 ≤ ps.length) : ps.drop (3 * q) = ps[3 * q] :: ps[3 * q + 1] :: ps[3 * q + 2] :: ps.drop (3 * q + 3) := by
  rw [List.drop_eq_getElem_cons (show 3 * q < ps.length by omega), List.drop_eq_getElem_cons (show 3 * q + 1 < ps.length by omega), List.drop_eq_getElem_cons (show 3 * q + 1 + 1 < ps.length by omega)]
theorem take3 {ps : List ByteArray} {q : Nat} (h : 3 * q + 3 ≤ ps.length) : ps.take (3 * (q + 1)) = ps.take (3 * q) ++ [ps[3 * q], ps[3 * q + 1], ps[3 * q + 2]] := by
  have e3 : ps.take (3 * q + 2 + 1) = ps.take (3 * q + 2) ++ [ps[3 * q + 2]] := List.take_succ_eq_append_getElem (by omega)
  have e2 : ps.take (3 * q + 2) = ps.take (3 * q + 1) ++ [ps[3 * q + 1]] := List.take_succ_eq_append_getElem (by omega)
  have e1 : ps.take (3 * q + 1) = ps.take (3 * q) ++ [ps[3 * q]] := List.take_succ_eq_append_getElem (by omega)
  rw [show 3 * (q + 1) = 3 * q + 2 + 1 by omega, e3, e2, e1]
  simp only [List.append_assoc, List.cons_append, List.nil_append]
theorem decE_next {ps : List ByteArray} {q : Nat} {L : List Ent} (h : 3 * q + 3 ≤ ps.length) (hL : decE (ps.take (3 * q)) = some L) (ht : triOk ps[3 * q] ps[3 * q + 2] = true) :
    decE (ps.take (3 * (q + 1))) = some (L ++ [entOf ps[3 * q] ps[3 * q + 1] ps[3 * q + 2]]) := by
  rw [take3 h, decE_app _ L _ hL, decE_cons, if_pos ht]; rfl
theorem decE_bad {ps : List ByteArray} {q : Nat} {L : List Ent} (h : 3 * q + 3 ≤ ps.length) (hL : decE (ps.take (3 * q)) = some L) (ht : triOk ps[3 * q] ps[3 * q + 2] = false) : decE ps = none := by
  rw [← List.take_append_drop (3 * q) ps, decE_app _ L _ hL, drop3 h, decE_cons, if_neg (by rw [ht]; decide)]; rfl
def getP (ps : List ByteArray) : Option (List Ent) := if ps.length % 3 ≠ 0 then none else match decE ps with
  | none => none
  | some l => if goodT l = true then some l else none
def getT (s : ByteArray) : Option (List Ent) := match S.splitB s with
  | none => none
  | some ps => getP ps
theorem sjoin_size (ss : List ByteArray) : (S.joinB ss).size = 8 + 8 * ss.length + S.total ss := by
  rw [Lib.size_eq, S.joinB_list, List.length_append, S.numB_len, S.partsL_len]; omega
theorem split_sizes {s : ByteArray} {ps : List ByteArray} (h : S.splitB s = some ps) : (∀ p ∈ ps, p.size ≤ s.size) ∧ 8 * ps.length ≤ s.size := by
  have h1 := S.join_split s ps h
  have h2 := sjoin_size ps
  rw [h1] at h2
  exact ⟨fun p hp => by have := S.total_mem ps p hp; omega, by omega⟩
theorem getT_some {s : ByteArray} {l : List Ent} (h : getT s = some l) : goodT l = true ∧ treeB l = s ∧ (∀ x ∈ l, x.2.2.1.length = 32 ∧ x.1.size ≤ s.size) ∧ 24 * l.length ≤ s.size := by
  unfold getT at h
  cases hs : S.splitB s with
  | none => rw [hs] at h; cases h
  | some ps =>
    rw [hs] at h
    unfold getP at h
    simp only at h
    by_cases h3 : ps.length % 3 ≠ 0
    · rw [if_pos h3] at h; cases h
    · rw [if_neg h3] at h
      cases hd : decE ps with
      | none => rw [hd] at h; cases h
      | some m =>
        rw [hd] at h
        simp only at h
        by_cases hg : goodT m = true
        · rw [if_pos hg] at h
          obtain rfl := Option.some.inj h
          obtain ⟨h1, h2⟩ := decE_some ps m hd
          obtain ⟨h4, h5⟩ := split_sizes hs
          refine ⟨hg, ?_, fun x hx => ⟨h2 x hx, ?_⟩, ?_⟩
          · show S.joinB (partsE m) = s
            rw [h1]; exact S.join_split s ps hs
          · refine h4 _ ?_
            rw [← h1]
            exact List.mem_flatMap.2 ⟨x, hx, by simp [partE]⟩
          · have := congrArg List.length h1
            rw [partsE_len] at this
            omega
        · rw [if_neg hg] at h; cases h
theorem getT_tree {l : List Ent} (hg : goodT l = true) (h : ∀ x ∈ l, x.2.2.1.length = 32 ∧ x.1.size ≤ 1048576) (hn : l.length ≤ 1048576) : getT (treeB l) = some l := by
  unfold getT treeB
  have hsz : ∀ p ∈ partsE l, p.size < 18446744073709551616 := fun p hp => by
    obtain ⟨x, hx, hp⟩ := List.mem_flatMap.1 hp
    have := h x hx
    simp only [partE, List.mem_cons, List.not_mem_nil, or_false] at hp
    rcases hp with rfl | rfl | rfl
    · rw [kindB_size]; omega
    · omega
    · rw [idB_size]; omega
  rw [S.split_join (partsE l) (by rw [partsE_len]; omega) hsz]
  unfold getP
  simp only
  rw [if_neg (by rw [partsE_len]; omega), decE_parts l (fun x hx => (h x hx).1)]
  simp only
  rw [if_pos hg]
end Go.Proofs.YtdhaanaenklleaaDoor
namespace Go.Proofs.YtdhaanaenklleaaDoor
set_option linter.unusedVariables false
set_option linter.unusedSimpArgs false
open Go.ChangeShapes Go.WideShapes Go.ChangeAt Go.RowKit

theorem foldl_get (off : Nat) : ∀ (l : List Value) (k : Nat) (cs : Array Value) (i : Nat), ((l.zipIdx k).foldl (fun (cs : Array Value) (x : Value × Nat) => cs.setIfInBounds (off + x.2) x.1) cs)[i]? = if off + k ≤ i ∧ i < off + k + l.length ∧ i < cs.size then l[i - off - k]? else cs[i]?
  | [], k, cs, i => by
    simp only [List.zipIdx_nil, List.foldl_nil, List.length_nil]
    rw [if_neg (by omega)]
  | c :: l, k, cs, i => by
    rw [List.zipIdx_cons, List.foldl_cons, foldl_get off l (k + 1)]
    simp only [Array.size_setIfInBounds, List.length_cons]
    by_cases h1 : off + (k + 1) ≤ i ∧ i < off + (k + 1) + l.length ∧ i < cs.size
    · rw [if_pos h1, if_pos (by omega), show i - off - k = (i - off - (k + 1)) + 1 by omega, List.getElem?_cons_succ]
    · rw [if_neg h1, Array.getElem?_setIfInBounds]
      by_cases h2 : off + k = i
      · by_cases h3 : i < cs.size
        · rw [if_pos h2, if_pos (by omega), if_pos (by omega), show i - off - k = 0 by omega]; rfl
        · rw [if_pos h2, if_neg (by omega), if_neg (by omega), Array.getElem?_eq_none (by omega)]
      · rw [if_neg h2, if_neg (by omega)]
theorem built_ent (parts : List (Nat × Value)) : Tryd.prog.built 80 parts = Instr.fill (fun i => (#[(0, 1), (1, 1), (2, 32)] : Array (Nat × Nat))[i]?) #[.string ⟨#[]⟩, .bool false, .int .u8 0, .int .u8 0, .int .u8 0, .int .u8 0, .int .u8 0, .int .u8 0, .int .u8 0, .int .u8 0, .int .u8 0, .int .u8 0, .int .u8 0, .int .u8 0, .int .u8 0, .int .u8 0, .int .u8 0, .int .u8 0, .int .u8 0, .int .u8 0, .int .u8 0, .int .u8 0, .int .u8 0, .int .u8 0, .int .u8 0, .int .u8 0, .int .u8 0, .int .u8 0, .int .u8 0, .int .u8 0, .int .u8 0, .int .u8 0, .int .u8 0, .int .u8 0] parts := by kernel_rfl
theorem build_ent (w : World) (z : ByteArray) (td : Bool) (dv : List UInt8) (h : dv.length = 32) :
    (Instr.build 80 #[(0, .string z), (1, .bool td), (2, .agg (bytV dv).toArray)]).run Tryd.prog w = .ok (.agg (entV (z, td, dv, ())).toArray) w := by
  refine run_build w 80 _ _ ?_
  rw [built_ent]
  have hb : (bytV dv).length = 32 := by rw [bytV_len, h]
  have e : (Value.agg (bytV dv).toArray).cells = (bytV dv).toArray := rfl
  have e1 : (Value.string z).cells = #[.string z] := rfl
  have e2 : (Value.bool td).cells = #[.bool td] := rfl
  simp only [Instr.fill, e, e1, e2, List.size_toArray, hb]
  simp
  apply Array.ext_getElem?
  intro i
  have hf := foldl_get 2 (bytV dv) 0 (#[.string z, .bool td, .int .u8 0, .int .u8 0, .int .u8 0, .int .u8 0, .int .u8 0, .int .u8 0, .int .u8 0, .int .u8 0, .int .u8 0, .int .u8 0, .int .u8 0, .int .u8 0, .int .u8 0, .int .u8 0, .int .u8 0, .int .u8 0, .int .u8 0, .int .u8 0, .int .u8 0, .int .u8 0, .int .u8 0, .int .u8 0, .int .u8 0, .int .u8 0, .int .u8 0, .int .u8 0, .int .u8 0, .int .u8 0, .int .u8 0, .int .u8 0, .int .u8 0, .int .u8 0] : Array Value) i
  rw [hf]
  rw [hb]
  match i with
  | 0 => simp [entV]
  | 1 => simp [entV]
  | i + 2 =>
    by_cases hi : i < 32
    · rw [if_pos ⟨by omega, by omega, by simp; omega⟩]
      simp [entV]
    · rw [if_neg (by omega), Array.getElem?_eq_none (by simp; omega), List.getElem?_toArray, entV, List.getElem?_cons_succ, List.getElem?_cons_succ, List.getElem?_eq_none (by show (bytV dv).length ≤ i; omega)]
theorem fill_one (zero : Array Value) (l : List Value) (n : Nat) (hx : l.length = n) (hz : zero.size = n) : Instr.fill (fun i => some (i * n, n)) zero [(0, .agg l.toArray)] = some l.toArray := by
  have e : (Value.agg l.toArray).cells = l.toArray := rfl
  simp only [Instr.fill, e, List.size_toArray, hx]
  simp [hz]
  apply Array.ext_getElem?
  intro i
  have hf := foldl_get 0 l 0 zero i
  simp only [Nat.zero_add, Nat.add_zero, Nat.sub_zero] at hf
  rw [hf]
  by_cases hi : i < n
  · rw [if_pos ⟨by omega, by omega, by omega⟩, List.getElem?_toArray]
  · rw [if_neg (by omega), Array.getElem?_eq_none (by omega), Array.getElem?_eq_none (by simp; omega)]
theorem slice_one {t e : TypeId} {n by_ : Nat} {X : Type} {fl : X → List Value} (E : Elt t e n by_ fl) (w : World) (x : X) (hx : (fl x).length = n) (hn : n ≤ 16777216) :
    (Instr.buildSlice t 1 #[(0, .agg (fl x).toArray)]).run Tryd.prog w = .ok (.slice (some ⟨w.heap.size, 0, none⟩) 1 1) (w.alloc (.cells (fl x).toArray e)) := by
  obtain ⟨i, z, hi, hz, h1, h2, h3⟩ := E.inf
  have hp := E.pos
  refine run_buildSlice w t e 1 _ _ i z E.tu hi hz (by rw [h1]; omega) (by rw [h1]; omega) ?_
  rw [h1]
  exact fill_one _ _ n hx (by simp)
theorem out_load {P : Program} {o : Oper} {ρ : Operand → Value} {w : World} {φ : Value → World → Prop} {ty : TypeId} {x : Operand} {p : Addr} {v : Value} (ho : o.op = .load ty x) (hx : ρ x = .pointer (some p)) (hr : (loadVar ty p).run P w = .ok v w) (hφ : φ v w) : K2.Out P o ρ w φ := by
  refine K2.out_run (v := v) (w' := w) ?_ hφ
  unfold execOp
  simp only [ho, hx, Instr.loadAt, Instr.sureAddr, Sem.run_bind, Sem.run_pure, Result.andThen_ok, hr]
theorem out_build {P : Program} {o : Oper} {ρ : Operand → Value} {w : World} {φ : Value → World → Prop} {ty : TypeId} {parts : Array (Nat × Operand)} {ps : Array (Nat × Value)} {v : Value} (ho : o.op = .build ty parts) (hx : (parts.map fun (i, x) => (i, ρ x)) = ps) (hr : (Instr.build ty ps).run P w = .ok v w) (hφ : φ v w) : K2.Out P o ρ w φ := by
  refine K2.out_run (v := v) (w' := w) ?_ hφ
  unfold execOp
  simp only [ho, hx, Sem.run_bind, Sem.run_pure, Result.andThen_ok, hr]
theorem out_buildSlice {P : Program} {o : Oper} {ρ : Operand → Value} {w w' : World} {φ : Value → World → Prop} {ty : TypeId} {n : Nat} {parts : Array (Nat × Operand)} {ps : Array (Nat × Value)} {v : Value} (ho : o.op = .buildSlice ty n parts) (hx : (parts.map fun (i, x) => (i, ρ x)) = ps) (hr : (Instr.buildSlice ty n ps).run P w = .ok v w') (hφ : φ v w') : K2.Out P o ρ w φ := by
  refine K2.out_run (v := v) (w' := w') ?_ hφ
  unfold execOp
  simp only [ho, hx, Sem.run_bind, Sem.run_pure, Result.andThen_ok, hr]
theorem load_id {w x : World} {B : Nat} {l : List UInt8} (h : BoxL w B (bytV l) x) (hl : l.length = 32) : (loadVar 37 ⟨B, 0, none⟩).run Tryd.prog x = .ok (.agg (bytV l).toArray) x :=
  run_loadVar_mid (P := Tryd.prog) x B 0 37 (bytV l) _ (fun j z hz => by rw [Nat.zero_add]; exact h.r j z hz) Tryd.underlying37 rfl (by rw [bytV_len, hl]; kernel_rfl)
end Go.Proofs.YtdhaanaenklleaaDoor
namespace Go.Proofs.YtdhaanaenklleaaDoor
set_option linter.unusedVariables false
set_option linter.unusedSimpArgs false
open Go.ChangeShapes Go.WideShapes Go.ChangeAt Go.RowKit

theorem wrap_in {n : Int} (h1 : -9223372036854775808 ≤ n) (h2 : n ≤ 9223372036854775807) : IntKind.i64.wrap n = n := by rw [IntKind.wrap_i64]; omega
theorem blob_list : (⟨#[98, 108, 111, 98]⟩ : ByteArray).toList = [98, 108, 111, 98] := by rw [Lib.toList_data]
theorem tree_list : (⟨#[116, 114, 101, 101]⟩ : ByteArray).toList = [116, 114, 101, 101] := by rw [Lib.toList_data]
def GetEnd (w : World) (r : Option (List Ent)) (e : Ending) (w' : World) : Prop := Below w.heap.size w w' ∧ match r with
  | none => e = .returned (.tuple #[.slice none 0 0, .int .i64 4])
  | some l => ∃ v, e = .returned (.tuple #[v, .int .i64 0]) ∧ Rows w' 34 entR v l
theorem strs_at {W : World} {v : Value} {ps : List ByteArray} {ln : Nat} (hln : ln = ps.length) (h : Strs W v ps) : ∃ p cap, v = .slice p ln cap ∧ (0 < ln → ∃ g o, p = some ⟨g, o, none⟩ ∧ g < W.heap.size ∧ ln ≤ cap ∧ cap ≤ 9223372036854775807 ∧ ∀ k, ∀ hk : k < ps.length, W.cell? ⟨g, o + k, none⟩ = some (.string ps[k])) := by
  subst hln
  rcases h with ⟨⟨p, cap, rfl⟩, rfl⟩ | ⟨b, off, cap, rfl, hcap, hmax, hb, hcell⟩
  · exact ⟨p, cap, rfl, fun h => by simp at h⟩
  · exact ⟨_, cap, rfl, fun _ => ⟨b, off, rfl, hb, hcap, by unfold maxLen at hmax; omega, fun k hk => by rw [hcell k hk]; simp [List.getD, hk]⟩⟩
theorem getT_of {s : ByteArray} {ps : List ByteArray} (h : S.splitB s = some ps) : getT s = getP ps := by unfold getT; rw [h]

set_option maxRecDepth 100000 in
set_option maxHeartbeats 8000000 in
theorem getTree_any (s : ByteArray) (w : World) (hM : MaxAt w) (hs : s.size ≤ 1048576) : Calls Tryd.prog 19 #[.string s] w (GetEnd w (getT s)) := by
  obtain ⟨i0, z0, hi, hz0, hz1, hz2, hzs⟩ := eltE.inf
  have HSp := S.split_any s w hs
  cases hsp : S.splitB s with
  | none =>
    have Hfin := Lib.hid (show getT s = none by unfold getT; rw [hsp])
    rw [hsp] at HSp
    clear hsp hM
    go_enter Tryd.func19, Tryd.ntmps19
    go_wp2_with fail
    refine HSp.mono ?_
    rintro e w1 ⟨hB1, rfl⟩
    go_wp2_with fail
    go_ret2
    rw [Hfin.out]
    exact ⟨hB1, rfl⟩
  | some ps =>
    rw [hsp] at HSp
    obtain ⟨hps, hpl⟩ := split_sizes hsp
    have Hps := Lib.hid hps
    have HgetT := Lib.hid (getT_of hsp)
    clear hps hsp
    by_cases h3 : ps.length % 3 = 0
    · obtain ⟨n, hn⟩ : ∃ n, 3 * n = ps.length := ⟨ps.length / 3, by omega⟩
      have Hn := Lib.hid hn
      have HM := Lib.hid hM
      have hn2 : n ≤ 131072 := by omega
      clear h3 hpl hM
      go_enter Tryd.func19, Tryd.ntmps19
      go_wp2_with fail
      refine HSp.mono ?_
      rintro e w1 ⟨hB1, v1, rfl, hv1⟩
      obtain ⟨pp, pc, rfl, hp⟩ := strs_at Hn.out hv1
      have Hp := Lib.hid hp
      have HB1 := Lib.hid hB1
      clear hp hv1 hB1 hn
      go_wp2_with (at_make; refine wpList_make_own _ rfl _ _ 22 rfl w1.heap.size 80 i0 z0 34 Tryd.underlying22 hi hz0 hz1 .i64 .i64 _ n rfl rfl rfl (by rw [hz2]; omega) (by unfold maxLen; omega) (Nat.le_refl _) ?_; intro w3 hown3 hgrow3; have HL3 := Lib.hid (show LoG 80 34 entV w1 [] _ w3 from ⟨hown3, (Below.refl _ _).grown hgrow3 (Nat.le_refl _) (fun k h => by cases h)⟩); clear hown3 hgrow3)
      go_loopg [6, 7] n (fun g vo iv wr => ∃ q L, q + g = n ∧ iv = .int .i64 (3 * q : Nat) ∧ decE (ps.take (3 * q)) = some L ∧ L.length = q ∧ LoG 80 34 entV w1 L vo wr)
      case atStart => exact ⟨0, [], by omega, rfl, by rw [Nat.mul_zero, List.take_zero]; rfl, rfl, HL3.out⟩
      case round =>
        obtain ⟨q, L, hqg, rfl, hL, hLl, hLo⟩ := hrel
        have hB := hLo.bl
        have HLo := Lib.hid hLo
        have HB := Lib.hid hB
        have HL := Lib.hid hL
        have HLl := Lib.hid hLl
        clear hLo hB hL hLl HL3
        by_cases hlt : q < n
        · have hltI : (3 * q : Int) < (3 * n : Int) := by omega
          have h33 : 3 * q + 3 ≤ ps.length := by have := Hn.out; omega
          obtain ⟨g1, o1, rfl, hg1, hcap1, hmax1, hcell1⟩ := Hp.out (by omega)
          have hc0 := (HB.out.cell (p := ⟨g1, o1 + 3 * q, none⟩) hg1).trans (hcell1 (3 * q) (by omega))
          have hc1 := (HB.out.cell (p := ⟨g1, o1 + (3 * q + 1), none⟩) hg1).trans (hcell1 (3 * q + 1) (by omega))
          have hc2 := (HB.out.cell (p := ⟨g1, o1 + (3 * q + 2), none⟩) hg1).trans (hcell1 (3 * q + 2) (by omega))
          have hA0 := hcell1 (3 * q) (by omega)
          have hA1 := hcell1 (3 * q + 1) (by omega)
          have Hnext := Lib.hid (fun ht => decE_next h33 HL.out ht)
          have Hbad := Lib.hid (fun ht => decE_bad h33 HL.out ht)
          have hza := Hps.out _ (List.getElem_mem (l := ps) (n := 3 * q) (by omega))
          have hzn := Hps.out _ (List.getElem_mem (l := ps) (n := 3 * q + 1) (by omega))
          have hzd := Hps.out _ (List.getElem_mem (l := ps) (n := 3 * q + 2) (by omega))
          generalize ps[3 * q] = a at *
          generalize ps[3 * q + 1] = nm at *
          generalize ps[3 * q + 2] = d at *
          have Hz := Lib.hid (fun (l : List UInt8) (h : l.length = 32) => id_size h)
          have Hone := Lib.hid id_one
          have Hs32 := Lib.hid (fun (l : List UInt8) (h : l.length = 32) => (by rw [List.size_toArray, bytV_len, h] : (bytV l).toArray.size = 32))
          have Hbx := Lib.hid (fun (x : World) old (l : List UInt8) => boxL_made x old 37 (bytV l))

          have hcell1' := hcell1
          by_cases h32 : d.size = 32
          · have hdl : d.data.toList.length = 32 := by rw [← Lib.size_eq, h32]
            have Hdl := Lib.hid hdl
            have HRy := Lib.hid (fun w2 => readId_yes d w2 h32)
            clear hdl
            by_cases hb : a = kindB false
            · have ht : triOk a d = true := by unfold triOk; rw [hb, h32]; rfl
              have Hfin := Lib.hid (Hnext.out ht)
              have Het := Lib.hid (show entOf a nm d = (nm, false, d.data.toList, ()) by unfold entOf; rw [hb, decide_eq_false kind_ne])
              have k1 : (a.toList == (⟨#[98, 108, 111, 98]⟩ : ByteArray).toList) = true := beq_of hb
              have k2 : (a.toList == (⟨#[116, 114, 101, 101]⟩ : ByteArray).toList) = false := beq_of_ne (fun e => kind_ne (hb.symm.trans e))
              have k3 := k1
              have k4 := k2
              rw [blob_list] at k3
              rw [tree_list] at k4
              clear ht hb h32
              go_wp2_with fail
              refine (HRy.out _).mono ?_
              rintro e w2 ⟨rfl, hB2⟩
              have HW2 := Lib.hid (HB.out.trans (hB2.mono HB.out.size))
              have HLo2 := Lib.hid (HLo.out.below hB2)
              clear hB2 hc0 hc1 hc2
              go_wp2_with (refine wpList_store_rowTo rfl 37 (.tmp 8) (.tmp 40) rfl rfl w2.heap.size (bytV d.data.toList).toArray rfl rfl 37 _ (heap_alloc_new w2 _) (Hz.out _ Hdl.out) (by rw [Hs32.out _ Hdl.out]; rfl) (Hone.out _) ?_; refine box_absL (Hbx.out w2 _ d.data.toList) ?_; intro w4 hbx; have HBx := Lib.hid hbx; have HW4 := Lib.hid (HW2.out.trans (hbx.b.mono HW2.out.size)); have HLo4 := Lib.hid (HLo2.out.below hbx.b); have kc0 := (HW4.out.cell (p := ⟨g1, o1 + 3 * q, none⟩) hg1).trans hA0; clear hbx)
              have hd4 : Below w4.heap.size w4 w4.drew := (Below.refl _ _).drew
              have hi0 : (0 : Int) ≤ 3 * (q : Int) := by omega
              have hi2 : (0 : Int) ≤ 3 * (q : Int) + 1 := by omega
              have hn0 : (3 * (q : Int)).toNat = 3 * q := by omega
              have hn1 : (3 * (q : Int) + 1).toNat = 3 * q + 1 := by omega
              have hwr : IntKind.i64.wrap (3 * (q : Int) + 1) = 3 * (q : Int) + 1 := wrap_in (by omega) (by omega)
              have hi1 : (3 * (q : Int) + 1) < (3 * (n : Int)) := by omega
              have hRL : ∃ Rs : List (Value → World → Prop), Rs = [OwnG 80 34 entV w1.heap.size u6 L,
                  K2.PureV (.slice (some ⟨g1, o1, none⟩) (3 * n) pc),
                  K2.PureV (.int .i64 (3 * (q : Int))),
                  K2.PureV (.int .i64 (3 * (q : Int) + 1)),
                  K2.PureV (.pointer (some ⟨g1, o1 + (3 * q + 1), none⟩)),
                  K2.PureV (.string nm),
                  K2.PureV (.slice (some ⟨g1, o1, none⟩) (3 * n) pc),
                  K2.PureV (.int .i64 (3 * (q : Int))),
                  K2.PureV (.pointer (some ⟨g1, o1 + 3 * q, none⟩)),
                  K2.PureV (.string a),
                  K2.PureV (.bool false),
                  K2.PureV (.agg (bytV d.data.toList).toArray),
                  K2.PureV (.agg (entV (nm, false, d.data.toList, ())).toArray),
                  K2.NewB 1 (entV (nm, false, d.data.toList, ())).toArray 80,
                  RowG 80 34 entV w1.heap.size (L ++ [(nm, false, d.data.toList, ())]),
                  RowG 80 34 entV w1.heap.size (L ++ [(nm, false, d.data.toList, ())])] := ⟨_, rfl⟩
              obtain ⟨Rs, hRs⟩ := hRL
              refine K2.wp_region_rel2 w1.heap.size HLo4.out.bl.size (K2.RL Rs) [1, 2, 2, 2, 2, 2, 2, 2, 2, 2, 2, 2, 2, 1, 1, 1] [1, 1, 1, 1, 1, 1, 1, 1, 1, 1, 1, 1, 1, 1, 2, 1] [[], [], [], [], [], [], [], [], [], [], [], [], [], [], [0, 13], []] (by kernel_rfl) (by kernel_rfl) (K2.RL.st1 (by rw [hRs]; exact K2.st1_cons (OwnG.st1 _ _ _) (K2.st1_cons (K2.PureV.st1 _) (K2.st1_cons (K2.PureV.st1 _) (K2.st1_cons (K2.PureV.st1 _) (K2.st1_cons (K2.PureV.st1 _) (K2.st1_cons (K2.PureV.st1 _) (K2.st1_cons (K2.PureV.st1 _) (K2.st1_cons (K2.PureV.st1 _) (K2.st1_cons (K2.PureV.st1 _) (K2.st1_cons (K2.PureV.st1 _) (K2.st1_cons (K2.PureV.st1 _) (K2.st1_cons (K2.PureV.st1 _) (K2.st1_cons (K2.PureV.st1 _) (K2.st1_cons (K2.NewB.st1 _ _ _) (K2.st1_cons (RowG.st1 _ _) (K2.st1_cons (RowG.st1 _ _) (K2.st1_nil)))))))))))))))))) (K2.RL.st2 (by rw [hRs]; exact K2.st2_skip (K2.st2_cons (K2.PureV.st2 _ _ _) (K2.st2_cons (K2.PureV.st2 _ _ _) (K2.st2_cons (K2.PureV.st2 _ _ _) (K2.st2_cons (K2.PureV.st2 _ _ _) (K2.st2_cons (K2.PureV.st2 _ _ _) (K2.st2_cons (K2.PureV.st2 _ _ _) (K2.st2_cons (K2.PureV.st2 _ _ _) (K2.st2_cons (K2.PureV.st2 _ _ _) (K2.st2_cons (K2.PureV.st2 _ _ _) (K2.st2_cons (K2.PureV.st2 _ _ _) (K2.st2_cons (K2.PureV.st2 _ _ _) (K2.st2_cons (K2.PureV.st2 _ _ _) (K2.st2_skip (K2.st2_skip (K2.st2_skip (K2.st2_nil)))))))))))))))))) ?_ ?_ ?_
              · intro i o d hi hd
                have hmem := List.mem_of_getElem? hi
                simp only [List.mem_cons, List.not_mem_nil, or_false] at hmem
                rcases hmem with rfl | rfl | rfl | rfl | rfl | rfl | rfl | rfl | rfl | rfl | rfl | rfl | rfl | rfl | rfl | rfl <;> simp at hd <;> (subst hd; simp)
              · refine K2.rel_start (Φ := K2.Hop _ _ _ _ _ _ _) ?_
                refine K2.rel_cons (Φ := K2.Hop _ _ _ _ _ _ _) (k := 0) ?_ ?_
                · intro fa fw hfB hfN hfE hfk hft
                  have hE : Below w4.drew.heap.size w4.drew fw := hfE (by kernel_rfl)
                  have k6 : fa.eval (.tmp 6) = u6 := hft 6 (K2.mem_looks (by kernel_rfl)) (K2.noneed (by kernel_rfl))
                  rw [hRs]
                  refine K2.hop_plain rfl ?_
                  refine K2.out_move rfl ?_
                  exact ⟨⟨k6, gen_own_below HLo4.out.ow (hd4.trans (hE.mono hd4.size))⟩, Below.refl _ _⟩
                refine K2.rel_cons (Φ := K2.Hop _ _ _ _ _ _ _) (k := 1) ?_ ?_
                · intro fa fw hfB hfN hfE hfk hft
                  have k4 : fa.eval (.tmp 4) = .slice (some ⟨g1, o1, none⟩) (3 * n) pc := hft 4 (K2.mem_looks (by kernel_rfl)) (K2.noneed (by kernel_rfl))
                  rw [hRs]
                  refine K2.hop_plain rfl ?_
                  refine K2.out_move rfl ?_
                  exact ⟨k4, Below.refl _ _⟩
                refine K2.rel_cons (Φ := K2.Hop _ _ _ _ _ _ _) (k := 2) ?_ ?_
                · intro fa fw hfB hfN hfE hfk hft
                  have k7 : fa.eval (.tmp 7) = .int .i64 (3 * (q : Int)) := hft 7 (K2.mem_looks (by kernel_rfl)) (K2.noneed (by kernel_rfl))
                  rw [hRs]
                  refine K2.hop_plain rfl ?_
                  refine K2.out_move rfl ?_
                  exact ⟨k7, Below.refl _ _⟩
                refine K2.rel_cons (Φ := K2.Hop _ _ _ _ _ _ _) (k := 3) ?_ ?_
                · intro fa fw hfB hfN hfE hfk hft
                  have k60 : fa.eval (.tmp 60) = (.int .i64 (3 * (q : Int))) := by have := hfk 2 (K2.mem_needs (by kernel_rfl)) _ rfl; rw [hRs] at this; exact this
                  rw [hRs]
                  refine K2.hop_plain rfl ?_
                  have kc : ∀ v, fa.eval (.const v) = v := fun _ => rfl
                  generalize fa.eval = ρ at *
                  exact K2.out_run (v := .int .i64 (3 * (q : Int) + 1)) (w' := fw) (by simp [execOp, kc, k60, go_sem, hwr]) ⟨rfl, Below.refl _ _⟩
                refine K2.rel_cons (Φ := K2.Hop _ _ _ _ _ _ _) (k := 4) ?_ ?_
                · intro fa fw hfB hfN hfE hfk hft
                  have k59 : fa.eval (.tmp 59) = (.slice (some ⟨g1, o1, none⟩) (3 * n) pc) := by have := hfk 1 (K2.mem_needs (by kernel_rfl)) _ rfl; rw [hRs] at this; exact this
                  have k61 : fa.eval (.tmp 61) = (.int .i64 (3 * (q : Int) + 1)) := by have := hfk 3 (K2.mem_needs (by kernel_rfl)) _ rfl; rw [hRs] at this; exact this
                  rw [hRs]
                  refine K2.hop_plain rfl ?_
                  generalize fa.eval = ρ at *
                  exact K2.out_run (v := .pointer (some ⟨g1, o1 + (3 * q + 1), none⟩)) (w' := fw) (by simp [execOp, k59, k61, go_sem, hi1, hi2, hn1]) ⟨rfl, Below.refl _ _⟩
                refine K2.rel_cons (Φ := K2.Hop _ _ _ _ _ _ _) (k := 5) ?_ ?_
                · intro fa fw hfB hfN hfE hfk hft
                  have hE : Below w4.drew.heap.size w4.drew fw := hfE (by kernel_rfl)
                  have k62 : fa.eval (.tmp 62) = (.pointer (some ⟨g1, o1 + (3 * q + 1), none⟩)) := by have := hfk 4 (K2.mem_needs (by kernel_rfl)) _ rfl; rw [hRs] at this; exact this
                  rw [hRs]
                  refine K2.hop_plain rfl ?_
                  have h := ((HW4.out.trans (hd4.mono HW4.out.size)).trans (hE.mono (by have := HW4.out.size; have := hd4.size; omega))).cell (p := ⟨g1, o1 + (3 * q + 1), none⟩) hg1
                  exact out_load rfl k62 (by simp [go_sem, h.trans hA1]) ⟨rfl, Below.refl _ _⟩
                refine K2.rel_cons (Φ := K2.Hop _ _ _ _ _ _ _) (k := 6) ?_ ?_
                · intro fa fw hfB hfN hfE hfk hft
                  have k4 : fa.eval (.tmp 4) = .slice (some ⟨g1, o1, none⟩) (3 * n) pc := hft 4 (K2.mem_looks (by kernel_rfl)) (K2.noneed (by kernel_rfl))
                  rw [hRs]
                  refine K2.hop_plain rfl ?_
                  refine K2.out_move rfl ?_
                  exact ⟨k4, Below.refl _ _⟩
                refine K2.rel_cons (Φ := K2.Hop _ _ _ _ _ _ _) (k := 7) ?_ ?_
                · intro fa fw hfB hfN hfE hfk hft
                  have k7 : fa.eval (.tmp 7) = .int .i64 (3 * (q : Int)) := hft 7 (K2.mem_looks (by kernel_rfl)) (K2.noneed (by kernel_rfl))
                  rw [hRs]
                  refine K2.hop_plain rfl ?_
                  refine K2.out_move rfl ?_
                  exact ⟨k7, Below.refl _ _⟩
                refine K2.rel_cons (Φ := K2.Hop _ _ _ _ _ _ _) (k := 8) ?_ ?_
                · intro fa fw hfB hfN hfE hfk hft
                  have k64 : fa.eval (.tmp 64) = (.slice (some ⟨g1, o1, none⟩) (3 * n) pc) := by have := hfk 6 (K2.mem_needs (by kernel_rfl)) _ rfl; rw [hRs] at this; exact this
                  have k65 : fa.eval (.tmp 65) = (.int .i64 (3 * (q : Int))) := by have := hfk 7 (K2.mem_needs (by kernel_rfl)) _ rfl; rw [hRs] at this; exact this
                  rw [hRs]
                  refine K2.hop_plain rfl ?_
                  generalize fa.eval = ρ at *
                  exact K2.out_run (v := .pointer (some ⟨g1, o1 + 3 * q, none⟩)) (w' := fw) (by simp [execOp, k64, k65, go_sem, hltI, hi0, hn0, hlt]) ⟨rfl, Below.refl _ _⟩
                refine K2.rel_cons (Φ := K2.Hop _ _ _ _ _ _ _) (k := 9) ?_ ?_
                · intro fa fw hfB hfN hfE hfk hft
                  have hE : Below w4.drew.heap.size w4.drew fw := hfE (by kernel_rfl)
                  have k66 : fa.eval (.tmp 66) = (.pointer (some ⟨g1, o1 + 3 * q, none⟩)) := by have := hfk 8 (K2.mem_needs (by kernel_rfl)) _ rfl; rw [hRs] at this; exact this
                  rw [hRs]
                  refine K2.hop_plain rfl ?_
                  have h := ((HW4.out.trans (hd4.mono HW4.out.size)).trans (hE.mono (by have := HW4.out.size; have := hd4.size; omega))).cell (p := ⟨g1, o1 + 3 * q, none⟩) hg1
                  exact out_load rfl k66 (by simp [go_sem, h.trans hA0]) ⟨rfl, Below.refl _ _⟩
                refine K2.rel_cons (Φ := K2.Hop _ _ _ _ _ _ _) (k := 10) ?_ ?_
                · intro fa fw hfB hfN hfE hfk hft
                  have k67 : fa.eval (.tmp 67) = (.string a) := by have := hfk 9 (K2.mem_needs (by kernel_rfl)) _ rfl; rw [hRs] at this; exact this
                  rw [hRs]
                  refine K2.hop_plain rfl ?_
                  have kc : ∀ v, fa.eval (.const v) = v := fun _ => rfl
                  generalize fa.eval = ρ at *
                  exact K2.out_run (v := .bool false) (w' := fw) (by simp [execOp, kc, k67, go_sem, k2, k4]) ⟨rfl, Below.refl _ _⟩
                refine K2.rel_cons (Φ := K2.Hop _ _ _ _ _ _ _) (k := 11) ?_ ?_
                · intro fa fw hfB hfN hfE hfk hft
                  have hE : Below w4.drew.heap.size w4.drew fw := hfE (by kernel_rfl)
                  have k8 : fa.eval (.tmp 8) = .pointer (some ⟨w2.heap.size, 0, none⟩) := hft 8 (K2.mem_looks (by kernel_rfl)) (K2.noneed (by kernel_rfl))
                  rw [hRs]
                  refine K2.hop_plain rfl ?_
                  exact out_load rfl k8 (load_id ((HBx.out.below hd4).below hE) Hdl.out) ⟨rfl, Below.refl _ _⟩
                refine K2.rel_cons (Φ := K2.Hop _ _ _ _ _ _ _) (k := 12) ?_ ?_
                · intro fa fw hfB hfN hfE hfk hft
                  have k63 : fa.eval (.tmp 63) = (.string nm) := by have := hfk 5 (K2.mem_needs (by kernel_rfl)) _ rfl; rw [hRs] at this; exact this
                  have k68 : fa.eval (.tmp 68) = (.bool false) := by have := hfk 10 (K2.mem_needs (by kernel_rfl)) _ rfl; rw [hRs] at this; exact this
                  have k69 : fa.eval (.tmp 69) = (.agg (bytV d.data.toList).toArray) := by have := hfk 11 (K2.mem_needs (by kernel_rfl)) _ rfl; rw [hRs] at this; exact this
                  rw [hRs]
                  refine K2.hop_plain rfl ?_
                  exact out_build rfl (by simp only [List.map_toArray, List.map_cons, List.map_nil, k63, k68, k69]) (build_ent fw nm false d.data.toList Hdl.out) ⟨rfl, Below.refl _ _⟩
                refine K2.rel_cons (Φ := K2.Hop _ _ _ _ _ _ _) (k := 13) ?_ ?_
                · intro fa fw hfB hfN hfE hfk hft
                  have k70 : fa.eval (.tmp 70) = (.agg (entV (nm, false, d.data.toList, ())).toArray) := by have := hfk 12 (K2.mem_needs (by kernel_rfl)) _ rfl; rw [hRs] at this; exact this
                  rw [hRs]
                  refine K2.hop_plain rfl ?_
                  exact out_buildSlice rfl (by simp only [List.map_toArray, List.map_cons, List.map_nil, k70]) (slice_one eltE fw (nm, false, d.data.toList, ()) (entV_len Hdl.out) (by decide)) ⟨⟨_, rfl, heap_alloc_new _ _⟩, (Below.refl _ _).alloc (Nat.le_refl _) _⟩
                refine K2.rel_cons (Φ := K2.Hop _ _ _ _ _ _ _) (k := 14) ?_ ?_
                · intro fa fw hfB hfN hfE hfk hft
                  have k58 : (OwnG 80 34 entV w1.heap.size u6 L) (fa.eval (.tmp 58)) fw := by have := hfk 0 (K2.mem_needs (by kernel_rfl)) _ rfl; rw [hRs] at this; exact this
                  have k71 : (K2.NewB 1 (entV (nm, false, d.data.toList, ())).toArray 80) (fa.eval (.tmp 71)) fw := by have := hfk 13 (K2.mem_needs (by kernel_rfl)) _ rfl; rw [hRs] at this; exact this
                  rw [hRs]
                  refine K2.hop_plain rfl ?_
                  obtain ⟨hv0, ho0⟩ := k58
                  obtain ⟨B1, hb1, hb2⟩ := k71
                  obtain ⟨v', w', hr, ho, hg⟩ := run_append_gen eltE fw w1.heap.size _ _ _ _ [(nm, false, d.data.toList, ())] ho0 (LAt.block (entV_len Hdl.out) rfl hb2) (by have := HLl.out; simp only [List.length_cons, List.length_nil]; omega) (by unfold maxLen; have := HLl.out; simp only [List.length_cons, List.length_nil]; omega) hfN
                  refine out_append_k (.tmp 58) (.tmp 71) 22 rfl hv0 hb1 hr ⟨(show RowG 80 34 entV w1.heap.size (L ++ [(nm, false, d.data.toList, ())]) v' w' from ⟨by rw [List.length_append, LF_app]; exact ho⟩), ?_⟩
                  exact (Below.refl _ _).grown hg hfN (fun k hk => (ho0.lt k hk).1)
                refine K2.rel_cons (Φ := K2.Hop _ _ _ _ _ _ _) (k := 15) ?_ ?_
                · intro fa fw hfB hfN hfE hfk hft
                  have k72 : (RowG 80 34 entV w1.heap.size (L ++ [(nm, false, d.data.toList, ())])) (fa.eval (.tmp 72)) fw := by have := hfk 14 (K2.mem_needs (by kernel_rfl)) _ rfl; rw [hRs] at this; exact this
                  rw [hRs]
                  refine K2.hop_plain rfl ?_
                  refine K2.out_assign rfl ?_
                  exact ⟨k72, Below.refl _ _⟩
                exact K2.rel_nil
              · intro fa fw hfB hfy hff hfs hfd
                rw [hRs] at hfy
                have k6 : (RowG 80 34 entV w1.heap.size (L ++ [(nm, false, d.data.toList, ())])) (fa.eval (.tmp 6)) fw := hfy 15 _ rfl (K2.unkilled (by decide))
                replace k6 : RowG 80 34 entV w1.heap.size (L ++ [(nm, false, d.data.toList, ())]) (fa.tmps.getD 6 undef) fw := k6
                have HBf := Lib.hid (show Below w1.heap.size w1 fw from HLo4.out.bl.drew.trans hfB)
                have e := K2.rel_frame [58, 59, 60, 61, 62, 63, 64, 65, 66, 67, 68, 69, 70, 71, 72, 6] (by kernel_rfl) hff hfs hfd
                simp only [List.foldl] at e
                clear hfy hff hfs hfd 
                generalize fa.tmps.getD 58 undef = x58 at e
                generalize fa.tmps.getD 59 undef = x59 at e
                generalize fa.tmps.getD 60 undef = x60 at e
                generalize fa.tmps.getD 61 undef = x61 at e
                generalize fa.tmps.getD 62 undef = x62 at e
                generalize fa.tmps.getD 63 undef = x63 at e
                generalize fa.tmps.getD 64 undef = x64 at e
                generalize fa.tmps.getD 65 undef = x65 at e
                generalize fa.tmps.getD 66 undef = x66 at e
                generalize fa.tmps.getD 67 undef = x67 at e
                generalize fa.tmps.getD 68 undef = x68 at e
                generalize fa.tmps.getD 69 undef = x69 at e
                generalize fa.tmps.getD 70 undef = x70 at e
                generalize fa.tmps.getD 71 undef = x71 at e
                generalize fa.tmps.getD 72 undef = x72 at e
                generalize fa.tmps.getD 6 undef = x6 at e k6
                simp [List.setIfInBounds_toArray, List.set_cons_succ, List.set_cons_zero] at e
                subst e
                have HLn := Lib.hid (show LoG 80 34 entV w1 (L ++ [(nm, false, d.data.toList, ())]) x6 fw from ⟨k6.own, HBf.out⟩)
                clear k6
                go_wp2_with fail
                go_roundg (gk - 1)
                case measure => omega
                case rel => exact ⟨q + 1, L ++ [(nm, false, d.data.toList, ())], by omega, by go_num, by have := Hfin.out; rw [Het.out] at this; exact this, by rw [List.length_append, HLl.out]; rfl, HLn.out⟩
            · by_cases htr : a = kindB true
              · have ht : triOk a d = true := by unfold triOk; rw [htr, h32]; rfl
                have Hfin := Lib.hid (Hnext.out ht)
                have Het := Lib.hid (show entOf a nm d = (nm, true, d.data.toList, ()) by unfold entOf; rw [htr, decide_eq_true rfl])
                have k1 : (a.toList == (⟨#[98, 108, 111, 98]⟩ : ByteArray).toList) = false := beq_of_ne hb
                have k2 : (a.toList == (⟨#[116, 114, 101, 101]⟩ : ByteArray).toList) = true := beq_of htr
                have k3 := k1
                have k4 := k2
                rw [blob_list] at k3
                rw [tree_list] at k4
                clear ht hb htr h32
                go_wp2_with fail
                refine (HRy.out _).mono ?_
                rintro e w2 ⟨rfl, hB2⟩
                have HW2 := Lib.hid (HB.out.trans (hB2.mono HB.out.size))
                have HLo2 := Lib.hid (HLo.out.below hB2)
                clear hB2 hc0 hc1 hc2
                go_wp2_with (refine wpList_store_rowTo rfl 37 (.tmp 8) (.tmp 40) rfl rfl w2.heap.size (bytV d.data.toList).toArray rfl rfl 37 _ (heap_alloc_new w2 _) (Hz.out _ Hdl.out) (by rw [Hs32.out _ Hdl.out]; rfl) (Hone.out _) ?_; refine box_absL (Hbx.out w2 _ d.data.toList) ?_; intro w4 hbx; have HBx := Lib.hid hbx; have HW4 := Lib.hid (HW2.out.trans (hbx.b.mono HW2.out.size)); have HLo4 := Lib.hid (HLo2.out.below hbx.b); have kc0 := (HW4.out.cell (p := ⟨g1, o1 + 3 * q, none⟩) hg1).trans hA0; clear hbx)
                have hd4 : Below w4.heap.size w4 w4.drew := (Below.refl _ _).drew
                have hi0 : (0 : Int) ≤ 3 * (q : Int) := by omega
                have hi2 : (0 : Int) ≤ 3 * (q : Int) + 1 := by omega
                have hn0 : (3 * (q : Int)).toNat = 3 * q := by omega
                have hn1 : (3 * (q : Int) + 1).toNat = 3 * q + 1 := by omega
                have hwr : IntKind.i64.wrap (3 * (q : Int) + 1) = 3 * (q : Int) + 1 := wrap_in (by omega) (by omega)
                have hi1 : (3 * (q : Int) + 1) < (3 * (n : Int)) := by omega
                have hRL : ∃ Rs : List (Value → World → Prop), Rs = [OwnG 80 34 entV w1.heap.size u6 L,
                    K2.PureV (.slice (some ⟨g1, o1, none⟩) (3 * n) pc),
                    K2.PureV (.int .i64 (3 * (q : Int))),
                    K2.PureV (.int .i64 (3 * (q : Int) + 1)),
                    K2.PureV (.pointer (some ⟨g1, o1 + (3 * q + 1), none⟩)),
                    K2.PureV (.string nm),
                    K2.PureV (.slice (some ⟨g1, o1, none⟩) (3 * n) pc),
                    K2.PureV (.int .i64 (3 * (q : Int))),
                    K2.PureV (.pointer (some ⟨g1, o1 + 3 * q, none⟩)),
                    K2.PureV (.string a),
                    K2.PureV (.bool true),
                    K2.PureV (.agg (bytV d.data.toList).toArray),
                    K2.PureV (.agg (entV (nm, true, d.data.toList, ())).toArray),
                    K2.NewB 1 (entV (nm, true, d.data.toList, ())).toArray 80,
                    RowG 80 34 entV w1.heap.size (L ++ [(nm, true, d.data.toList, ())]),
                    RowG 80 34 entV w1.heap.size (L ++ [(nm, true, d.data.toList, ())])] := ⟨_, rfl⟩
                obtain ⟨Rs, hRs⟩ := hRL
                refine K2.wp_region_rel2 w1.heap.size HLo4.out.bl.size (K2.RL Rs) [1, 2, 2, 2, 2, 2, 2, 2, 2, 2, 2, 2, 2, 1, 1, 1] [1, 1, 1, 1, 1, 1, 1, 1, 1, 1, 1, 1, 1, 1, 2, 1] [[], [], [], [], [], [], [], [], [], [], [], [], [], [], [0, 13], []] (by kernel_rfl) (by kernel_rfl) (K2.RL.st1 (by rw [hRs]; exact K2.st1_cons (OwnG.st1 _ _ _) (K2.st1_cons (K2.PureV.st1 _) (K2.st1_cons (K2.PureV.st1 _) (K2.st1_cons (K2.PureV.st1 _) (K2.st1_cons (K2.PureV.st1 _) (K2.st1_cons (K2.PureV.st1 _) (K2.st1_cons (K2.PureV.st1 _) (K2.st1_cons (K2.PureV.st1 _) (K2.st1_cons (K2.PureV.st1 _) (K2.st1_cons (K2.PureV.st1 _) (K2.st1_cons (K2.PureV.st1 _) (K2.st1_cons (K2.PureV.st1 _) (K2.st1_cons (K2.PureV.st1 _) (K2.st1_cons (K2.NewB.st1 _ _ _) (K2.st1_cons (RowG.st1 _ _) (K2.st1_cons (RowG.st1 _ _) (K2.st1_nil)))))))))))))))))) (K2.RL.st2 (by rw [hRs]; exact K2.st2_skip (K2.st2_cons (K2.PureV.st2 _ _ _) (K2.st2_cons (K2.PureV.st2 _ _ _) (K2.st2_cons (K2.PureV.st2 _ _ _) (K2.st2_cons (K2.PureV.st2 _ _ _) (K2.st2_cons (K2.PureV.st2 _ _ _) (K2.st2_cons (K2.PureV.st2 _ _ _) (K2.st2_cons (K2.PureV.st2 _ _ _) (K2.st2_cons (K2.PureV.st2 _ _ _) (K2.st2_cons (K2.PureV.st2 _ _ _) (K2.st2_cons (K2.PureV.st2 _ _ _) (K2.st2_cons (K2.PureV.st2 _ _ _) (K2.st2_cons (K2.PureV.st2 _ _ _) (K2.st2_skip (K2.st2_skip (K2.st2_skip (K2.st2_nil)))))))))))))))))) ?_ ?_ ?_
                · intro i o d hi hd
                  have hmem := List.mem_of_getElem? hi
                  simp only [List.mem_cons, List.not_mem_nil, or_false] at hmem
                  rcases hmem with rfl | rfl | rfl | rfl | rfl | rfl | rfl | rfl | rfl | rfl | rfl | rfl | rfl | rfl | rfl | rfl <;> simp at hd <;> (subst hd; simp)
                · refine K2.rel_start (Φ := K2.Hop _ _ _ _ _ _ _) ?_
                  refine K2.rel_cons (Φ := K2.Hop _ _ _ _ _ _ _) (k := 0) ?_ ?_
                  · intro fa fw hfB hfN hfE hfk hft
                    have hE : Below w4.drew.heap.size w4.drew fw := hfE (by kernel_rfl)
                    have k6 : fa.eval (.tmp 6) = u6 := hft 6 (K2.mem_looks (by kernel_rfl)) (K2.noneed (by kernel_rfl))
                    rw [hRs]
                    refine K2.hop_plain rfl ?_
                    refine K2.out_move rfl ?_
                    exact ⟨⟨k6, gen_own_below HLo4.out.ow (hd4.trans (hE.mono hd4.size))⟩, Below.refl _ _⟩
                  refine K2.rel_cons (Φ := K2.Hop _ _ _ _ _ _ _) (k := 1) ?_ ?_
                  · intro fa fw hfB hfN hfE hfk hft
                    have k4 : fa.eval (.tmp 4) = .slice (some ⟨g1, o1, none⟩) (3 * n) pc := hft 4 (K2.mem_looks (by kernel_rfl)) (K2.noneed (by kernel_rfl))
                    rw [hRs]
                    refine K2.hop_plain rfl ?_
                    refine K2.out_move rfl ?_
                    exact ⟨k4, Below.refl _ _⟩
                  refine K2.rel_cons (Φ := K2.Hop _ _ _ _ _ _ _) (k := 2) ?_ ?_
                  · intro fa fw hfB hfN hfE hfk hft
                    have k7 : fa.eval (.tmp 7) = .int .i64 (3 * (q : Int)) := hft 7 (K2.mem_looks (by kernel_rfl)) (K2.noneed (by kernel_rfl))
                    rw [hRs]
                    refine K2.hop_plain rfl ?_
                    refine K2.out_move rfl ?_
                    exact ⟨k7, Below.refl _ _⟩
                  refine K2.rel_cons (Φ := K2.Hop _ _ _ _ _ _ _) (k := 3) ?_ ?_
                  · intro fa fw hfB hfN hfE hfk hft
                    have k60 : fa.eval (.tmp 60) = (.int .i64 (3 * (q : Int))) := by have := hfk 2 (K2.mem_needs (by kernel_rfl)) _ rfl; rw [hRs] at this; exact this
                    rw [hRs]
                    refine K2.hop_plain rfl ?_
                    have kc : ∀ v, fa.eval (.const v) = v := fun _ => rfl
                    generalize fa.eval = ρ at *
                    exact K2.out_run (v := .int .i64 (3 * (q : Int) + 1)) (w' := fw) (by simp [execOp, kc, k60, go_sem, hwr]) ⟨rfl, Below.refl _ _⟩
                  refine K2.rel_cons (Φ := K2.Hop _ _ _ _ _ _ _) (k := 4) ?_ ?_
                  · intro fa fw hfB hfN hfE hfk hft
                    have k59 : fa.eval (.tmp 59) = (.slice (some ⟨g1, o1, none⟩) (3 * n) pc) := by have := hfk 1 (K2.mem_needs (by kernel_rfl)) _ rfl; rw [hRs] at this; exact this
                    have k61 : fa.eval (.tmp 61) = (.int .i64 (3 * (q : Int) + 1)) := by have := hfk 3 (K2.mem_needs (by kernel_rfl)) _ rfl; rw [hRs] at this; exact this
                    rw [hRs]
                    refine K2.hop_plain rfl ?_
                    generalize fa.eval = ρ at *
                    exact K2.out_run (v := .pointer (some ⟨g1, o1 + (3 * q + 1), none⟩)) (w' := fw) (by simp [execOp, k59, k61, go_sem, hi1, hi2, hn1]) ⟨rfl, Below.refl _ _⟩
                  refine K2.rel_cons (Φ := K2.Hop _ _ _ _ _ _ _) (k := 5) ?_ ?_
                  · intro fa fw hfB hfN hfE hfk hft
                    have hE : Below w4.drew.heap.size w4.drew fw := hfE (by kernel_rfl)
                    have k62 : fa.eval (.tmp 62) = (.pointer (some ⟨g1, o1 + (3 * q + 1), none⟩)) := by have := hfk 4 (K2.mem_needs (by kernel_rfl)) _ rfl; rw [hRs] at this; exact this
                    rw [hRs]
                    refine K2.hop_plain rfl ?_
                    have h := ((HW4.out.trans (hd4.mono HW4.out.size)).trans (hE.mono (by have := HW4.out.size; have := hd4.size; omega))).cell (p := ⟨g1, o1 + (3 * q + 1), none⟩) hg1
                    exact out_load rfl k62 (by simp [go_sem, h.trans hA1]) ⟨rfl, Below.refl _ _⟩
                  refine K2.rel_cons (Φ := K2.Hop _ _ _ _ _ _ _) (k := 6) ?_ ?_
                  · intro fa fw hfB hfN hfE hfk hft
                    have k4 : fa.eval (.tmp 4) = .slice (some ⟨g1, o1, none⟩) (3 * n) pc := hft 4 (K2.mem_looks (by kernel_rfl)) (K2.noneed (by kernel_rfl))
                    rw [hRs]
                    refine K2.hop_plain rfl ?_
                    refine K2.out_move rfl ?_
                    exact ⟨k4, Below.refl _ _⟩
                  refine K2.rel_cons (Φ := K2.Hop _ _ _ _ _ _ _) (k := 7) ?_ ?_
                  · intro fa fw hfB hfN hfE hfk hft
                    have k7 : fa.eval (.tmp 7) = .int .i64 (3 * (q : Int)) := hft 7 (K2.mem_looks (by kernel_rfl)) (K2.noneed (by kernel_rfl))
                    rw [hRs]
                    refine K2.hop_plain rfl ?_
                    refine K2.out_move rfl ?_
                    exact ⟨k7, Below.refl _ _⟩
                  refine K2.rel_cons (Φ := K2.Hop _ _ _ _ _ _ _) (k := 8) ?_ ?_
                  · intro fa fw hfB hfN hfE hfk hft
                    have k64 : fa.eval (.tmp 64) = (.slice (some ⟨g1, o1, none⟩) (3 * n) pc) := by have := hfk 6 (K2.mem_needs (by kernel_rfl)) _ rfl; rw [hRs] at this; exact this
                    have k65 : fa.eval (.tmp 65) = (.int .i64 (3 * (q : Int))) := by have := hfk 7 (K2.mem_needs (by kernel_rfl)) _ rfl; rw [hRs] at this; exact this
                    rw [hRs]
                    refine K2.hop_plain rfl ?_
                    generalize fa.eval = ρ at *
                    exact K2.out_run (v := .pointer (some ⟨g1, o1 + 3 * q, none⟩)) (w' := fw) (by simp [execOp, k64, k65, go_sem, hltI, hi0, hn0, hlt]) ⟨rfl, Below.refl _ _⟩
                  refine K2.rel_cons (Φ := K2.Hop _ _ _ _ _ _ _) (k := 9) ?_ ?_
                  · intro fa fw hfB hfN hfE hfk hft
                    have hE : Below w4.drew.heap.size w4.drew fw := hfE (by kernel_rfl)
                    have k66 : fa.eval (.tmp 66) = (.pointer (some ⟨g1, o1 + 3 * q, none⟩)) := by have := hfk 8 (K2.mem_needs (by kernel_rfl)) _ rfl; rw [hRs] at this; exact this
                    rw [hRs]
                    refine K2.hop_plain rfl ?_
                    have h := ((HW4.out.trans (hd4.mono HW4.out.size)).trans (hE.mono (by have := HW4.out.size; have := hd4.size; omega))).cell (p := ⟨g1, o1 + 3 * q, none⟩) hg1
                    exact out_load rfl k66 (by simp [go_sem, h.trans hA0]) ⟨rfl, Below.refl _ _⟩
                  refine K2.rel_cons (Φ := K2.Hop _ _ _ _ _ _ _) (k := 10) ?_ ?_
                  · intro fa fw hfB hfN hfE hfk hft
                    have k67 : fa.eval (.tmp 67) = (.string a) := by have := hfk 9 (K2.mem_needs (by kernel_rfl)) _ rfl; rw [hRs] at this; exact this
                    rw [hRs]
                    refine K2.hop_plain rfl ?_
                    have kc : ∀ v, fa.eval (.const v) = v := fun _ => rfl
                    generalize fa.eval = ρ at *
                    exact K2.out_run (v := .bool true) (w' := fw) (by simp [execOp, kc, k67, go_sem, k2, k4]) ⟨rfl, Below.refl _ _⟩
                  refine K2.rel_cons (Φ := K2.Hop _ _ _ _ _ _ _) (k := 11) ?_ ?_
                  · intro fa fw hfB hfN hfE hfk hft
                    have hE : Below w4.drew.heap.size w4.drew fw := hfE (by kernel_rfl)
                    have k8 : fa.eval (.tmp 8) = .pointer (some ⟨w2.heap.size, 0, none⟩) := hft 8 (K2.mem_looks (by kernel_rfl)) (K2.noneed (by kernel_rfl))
                    rw [hRs]
                    refine K2.hop_plain rfl ?_
                    exact out_load rfl k8 (load_id ((HBx.out.below hd4).below hE) Hdl.out) ⟨rfl, Below.refl _ _⟩
                  refine K2.rel_cons (Φ := K2.Hop _ _ _ _ _ _ _) (k := 12) ?_ ?_
                  · intro fa fw hfB hfN hfE hfk hft
                    have k63 : fa.eval (.tmp 63) = (.string nm) := by have := hfk 5 (K2.mem_needs (by kernel_rfl)) _ rfl; rw [hRs] at this; exact this
                    have k68 : fa.eval (.tmp 68) = (.bool true) := by have := hfk 10 (K2.mem_needs (by kernel_rfl)) _ rfl; rw [hRs] at this; exact this
                    have k69 : fa.eval (.tmp 69) = (.agg (bytV d.data.toList).toArray) := by have := hfk 11 (K2.mem_needs (by kernel_rfl)) _ rfl; rw [hRs] at this; exact this
                    rw [hRs]
                    refine K2.hop_plain rfl ?_
                    exact out_build rfl (by simp only [List.map_toArray, List.map_cons, List.map_nil, k63, k68, k69]) (build_ent fw nm true d.data.toList Hdl.out) ⟨rfl, Below.refl _ _⟩
                  refine K2.rel_cons (Φ := K2.Hop _ _ _ _ _ _ _) (k := 13) ?_ ?_
                  · intro fa fw hfB hfN hfE hfk hft
                    have k70 : fa.eval (.tmp 70) = (.agg (entV (nm, true, d.data.toList, ())).toArray) := by have := hfk 12 (K2.mem_needs (by kernel_rfl)) _ rfl; rw [hRs] at this; exact this
                    rw [hRs]
                    refine K2.hop_plain rfl ?_
                    exact out_buildSlice rfl (by simp only [List.map_toArray, List.map_cons, List.map_nil, k70]) (slice_one eltE fw (nm, true, d.data.toList, ()) (entV_len Hdl.out) (by decide)) ⟨⟨_, rfl, heap_alloc_new _ _⟩, (Below.refl _ _).alloc (Nat.le_refl _) _⟩
                  refine K2.rel_cons (Φ := K2.Hop _ _ _ _ _ _ _) (k := 14) ?_ ?_
                  · intro fa fw hfB hfN hfE hfk hft
                    have k58 : (OwnG 80 34 entV w1.heap.size u6 L) (fa.eval (.tmp 58)) fw := by have := hfk 0 (K2.mem_needs (by kernel_rfl)) _ rfl; rw [hRs] at this; exact this
                    have k71 : (K2.NewB 1 (entV (nm, true, d.data.toList, ())).toArray 80) (fa.eval (.tmp 71)) fw := by have := hfk 13 (K2.mem_needs (by kernel_rfl)) _ rfl; rw [hRs] at this; exact this
                    rw [hRs]
                    refine K2.hop_plain rfl ?_
                    obtain ⟨hv0, ho0⟩ := k58
                    obtain ⟨B1, hb1, hb2⟩ := k71
                    obtain ⟨v', w', hr, ho, hg⟩ := run_append_gen eltE fw w1.heap.size _ _ _ _ [(nm, true, d.data.toList, ())] ho0 (LAt.block (entV_len Hdl.out) rfl hb2) (by have := HLl.out; simp only [List.length_cons, List.length_nil]; omega) (by unfold maxLen; have := HLl.out; simp only [List.length_cons, List.length_nil]; omega) hfN
                    refine out_append_k (.tmp 58) (.tmp 71) 22 rfl hv0 hb1 hr ⟨(show RowG 80 34 entV w1.heap.size (L ++ [(nm, true, d.data.toList, ())]) v' w' from ⟨by rw [List.length_append, LF_app]; exact ho⟩), ?_⟩
                    exact (Below.refl _ _).grown hg hfN (fun k hk => (ho0.lt k hk).1)
                  refine K2.rel_cons (Φ := K2.Hop _ _ _ _ _ _ _) (k := 15) ?_ ?_
                  · intro fa fw hfB hfN hfE hfk hft
                    have k72 : (RowG 80 34 entV w1.heap.size (L ++ [(nm, true, d.data.toList, ())])) (fa.eval (.tmp 72)) fw := by have := hfk 14 (K2.mem_needs (by kernel_rfl)) _ rfl; rw [hRs] at this; exact this
                    rw [hRs]
                    refine K2.hop_plain rfl ?_
                    refine K2.out_assign rfl ?_
                    exact ⟨k72, Below.refl _ _⟩
                  exact K2.rel_nil
                · intro fa fw hfB hfy hff hfs hfd
                  rw [hRs] at hfy
                  have k6 : (RowG 80 34 entV w1.heap.size (L ++ [(nm, true, d.data.toList, ())])) (fa.eval (.tmp 6)) fw := hfy 15 _ rfl (K2.unkilled (by decide))
                  replace k6 : RowG 80 34 entV w1.heap.size (L ++ [(nm, true, d.data.toList, ())]) (fa.tmps.getD 6 undef) fw := k6
                  have HBf := Lib.hid (show Below w1.heap.size w1 fw from HLo4.out.bl.drew.trans hfB)
                  have e := K2.rel_frame [58, 59, 60, 61, 62, 63, 64, 65, 66, 67, 68, 69, 70, 71, 72, 6] (by kernel_rfl) hff hfs hfd
                  simp only [List.foldl] at e
                  clear hfy hff hfs hfd 
                  generalize fa.tmps.getD 58 undef = x58 at e
                  generalize fa.tmps.getD 59 undef = x59 at e
                  generalize fa.tmps.getD 60 undef = x60 at e
                  generalize fa.tmps.getD 61 undef = x61 at e
                  generalize fa.tmps.getD 62 undef = x62 at e
                  generalize fa.tmps.getD 63 undef = x63 at e
                  generalize fa.tmps.getD 64 undef = x64 at e
                  generalize fa.tmps.getD 65 undef = x65 at e
                  generalize fa.tmps.getD 66 undef = x66 at e
                  generalize fa.tmps.getD 67 undef = x67 at e
                  generalize fa.tmps.getD 68 undef = x68 at e
                  generalize fa.tmps.getD 69 undef = x69 at e
                  generalize fa.tmps.getD 70 undef = x70 at e
                  generalize fa.tmps.getD 71 undef = x71 at e
                  generalize fa.tmps.getD 72 undef = x72 at e
                  generalize fa.tmps.getD 6 undef = x6 at e k6
                  simp [List.setIfInBounds_toArray, List.set_cons_succ, List.set_cons_zero] at e
                  subst e
                  have HLn := Lib.hid (show LoG 80 34 entV w1 (L ++ [(nm, true, d.data.toList, ())]) x6 fw from ⟨k6.own, HBf.out⟩)
                  clear k6
                  go_wp2_with fail
                  go_roundg (gk - 1)
                  case measure => omega
                  case rel => exact ⟨q + 1, L ++ [(nm, true, d.data.toList, ())], by omega, by go_num, by have := Hfin.out; rw [Het.out] at this; exact this, by rw [List.length_append, HLl.out]; rfl, HLn.out⟩
              · have ht : triOk a d = false := by unfold triOk; rw [decide_eq_false hb, decide_eq_false htr]; rfl
                have Hfin := Lib.hid (show getT s = none by rw [HgetT.out]; unfold getP; rw [if_neg (by rw [← Hn.out]; omega), Hbad.out ht])
                have k1 : (a.toList == (⟨#[98, 108, 111, 98]⟩ : ByteArray).toList) = false := beq_of_ne hb
                have k2 : (a.toList == (⟨#[116, 114, 101, 101]⟩ : ByteArray).toList) = false := beq_of_ne htr
                have k3 := k1
                have k4 := k2
                rw [blob_list] at k3
                rw [tree_list] at k4
                clear ht hb htr h32
                go_wp2_with fail
                refine (HRy.out _).mono ?_
                rintro e w2 ⟨rfl, hB2⟩
                have HW2 := Lib.hid (HB.out.trans (hB2.mono HB.out.size))
                have HLo2 := Lib.hid (HLo.out.below hB2)
                clear hB2 hc0 hc1 hc2
                go_wp2_with (refine wpList_store_rowTo rfl 37 (.tmp 8) (.tmp 40) rfl rfl w2.heap.size (bytV d.data.toList).toArray rfl rfl 37 _ (heap_alloc_new w2 _) (Hz.out _ Hdl.out) (by rw [Hs32.out _ Hdl.out]; rfl) (Hone.out _) ?_; refine box_absL (Hbx.out w2 _ d.data.toList) ?_; intro w4 hbx; have HBx := Lib.hid hbx; have HW4 := Lib.hid (HW2.out.trans (hbx.b.mono HW2.out.size)); have HLo4 := Lib.hid (HLo2.out.below hbx.b); have kc0 := (HW4.out.cell (p := ⟨g1, o1 + 3 * q, none⟩) hg1).trans hA0; clear hbx)
                go_ret2
                rw [Hfin.out]
                exact ⟨HB1.out.trans (HLo4.out.bl.mono HB1.out.size), rfl⟩
          · have ht : triOk a d = false := by unfold triOk; rw [decide_eq_false h32, Bool.and_false]
            have Hfin := Lib.hid (show getT s = none by rw [HgetT.out]; unfold getP; rw [if_neg (by rw [← Hn.out]; omega), Hbad.out ht])
            have HRy := Lib.hid (fun w2 => readId_no d w2 h32)
            have Hdl := Lib.hid (show zeroId.length = 32 by decide)
            clear ht
            go_wp2_with fail
            refine (HRy.out _).mono ?_
            rintro e w2 ⟨rfl, hB2⟩
            have HW2 := Lib.hid (HB.out.trans (hB2.mono HB.out.size))
            have HLo2 := Lib.hid (HLo.out.below hB2)
            clear hB2 hc0 hc1 hc2
            go_wp2_with (refine wpList_store_rowTo rfl 37 (.tmp 8) (.tmp 40) rfl rfl w2.heap.size (bytV zeroId).toArray rfl rfl 37 _ (heap_alloc_new w2 _) (Hz.out _ Hdl.out) (by rw [Hs32.out _ Hdl.out]; rfl) (Hone.out _) ?_; refine box_absL (Hbx.out w2 _ zeroId) ?_; intro w4 hbx; have HBx := Lib.hid hbx; have HW4 := Lib.hid (HW2.out.trans (hbx.b.mono HW2.out.size)); have HLo4 := Lib.hid (HLo2.out.below hbx.b); have kc0 := (HW4.out.cell (p := ⟨g1, o1 + 3 * q, none⟩) hg1).trans hA0; clear hbx)
            go_ret2
            rw [Hfin.out]
            exact ⟨HB1.out.trans (HLo4.out.bl.mono HB1.out.size), rfl⟩
        · obtain rfl : q = n := by omega
          have hltI : ¬ (3 * q : Int) < (3 * q : Int) := by omega
          have hps : decE ps = some L := by have := HL.out; rwa [List.take_of_length_le (by rw [← Hn.out]; exact Nat.le_refl _)] at this
          obtain ⟨hpe, h32⟩ := decE_some ps L hps
          have hnm : ∀ x ∈ L, x.1.size ≤ s.size := fun x hx => Hps.out _ (by rw [← hpe]; exact List.mem_flatMap.2 ⟨x, hx, by simp [partE]⟩)
          have hrows : Rows wr 34 entR u6 L := (LAt.own (fl := entV) (fun x hx => entV_len (h32 x hx)) HLo.out.ow).rows (fun x hx => entR_of (by have := hnm x hx; omega) (h32 x hx))
          have HG := Lib.hid (goodTree_any u6 L wr (HM.out.below (HB1.out.trans (HLo.out.bl.mono HB1.out.size))) hrows (fun x hx => by have := hnm x hx; omega) (by have := HLl.out; omega))
          have Hfin := Lib.hid (show getT s = if goodT L = true then some L else none by rw [HgetT.out]; unfold getP; rw [if_neg (by rw [← Hn.out]; omega), hps])
          have Hrows := Lib.hid hrows
          clear hps hpe h32 hnm hrows
          cases hg : goodT L with
          | true =>
            rw [hg] at HG
            rw [hg, if_pos rfl] at Hfin
            clear hg
            go_wp2_with fail
            refine HG.out.mono ?_
            rintro e w5 ⟨rfl, hB5⟩
            have HB5 := Lib.hid (HB1.out.trans ((HLo.out.below hB5).bl.mono HB1.out.size))
            have Hr5 := Lib.hid (Hrows.out.below hB5)
            clear hB5
            go_wp2_with fail
            go_ret2
            rw [Hfin.out]
            exact ⟨HB5.out, _, rfl, Hr5.out⟩
          | false =>
            rw [hg] at HG
            rw [hg, if_neg (by decide)] at Hfin
            clear hg
            go_wp2_with fail
            refine HG.out.mono ?_
            rintro e w5 ⟨rfl, hB5⟩
            have HB5 := Lib.hid (HB1.out.trans ((HLo.out.below hB5).bl.mono HB1.out.size))
            clear hB5
            go_wp2_with fail
            go_ret2
            rw [Hfin.out]
            exact ⟨HB5.out, rfl⟩
    · have Hfin := Lib.hid (show getT s = none by rw [HgetT.out]; unfold getP; rw [if_pos h3])
      obtain ⟨ln, hln⟩ : ∃ ln, ln = ps.length := ⟨_, rfl⟩
      rw [← hln] at h3
      have Hln := Lib.hid hln
      have hln2 : ln ≤ 131072 := by omega
      have hrm2 : ¬ Int.tmod (ln : Int) 3 = 0 := fun h => h3 (by have h2 : Int.ofNat (ln % 3) = Int.ofNat 0 := h; exact Int.ofNat.inj h2)
      have hrm : ((Int.tmod (ln : Int) 3) == 0) = false := beq_eq_false_iff_ne.2 hrm2
      clear hpl hM hln
      go_enter Tryd.func19, Tryd.ntmps19
      go_wp2_with fail
      refine HSp.mono ?_
      rintro e w1 ⟨hB1, v1, rfl, hv1⟩
      obtain ⟨pp, pc, rfl, -⟩ := strs_at Hln.out hv1
      have HB1 := Lib.hid hB1
      clear hv1 hB1
      go_wp2_with fail
      go_ret2
      rw [Hfin.out]
      exact ⟨HB1.out, rfl⟩
end Go.Proofs.YtdhaanaenklleaaDoor
namespace Go.Proofs.YtdhaanaenklleaaDoor
set_option linter.unusedVariables false
set_option linter.unusedSimpArgs false
open Go.ChangeShapes Go.WideShapes Go.ChangeAt Go.RowKit

def refR (s : ByteArray) : Option (List Ent) := getT s
def RGetEnd (w : World) (r : Option (List Ent)) (e : Ending) (w' : World) : Prop := Below w.heap.size w w' ∧ match r with
  | none => e = .returned (.tuple #[.slice none 0 0, .bool false])
  | some l => ∃ v, e = .returned (.tuple #[v, .bool true]) ∧ Rows w' 34 entR v l
set_option maxRecDepth 100000 in
set_option maxHeartbeats 8000000 in
theorem refGetTree_any (s : ByteArray) (w : World) (hs : s.size ≤ 1048576) : Calls Tryd.prog 20 #[.string s] w (RGetEnd w (refR s)) := by
  have HSp := S.refSplit_any s w hs
  cases hsp : S.splitB s with
  | none =>
    have Hfin := Lib.hid (show refR s = none by unfold refR getT; rw [hsp])
    rw [hsp] at HSp
    clear hsp
    go_enter Tryd.func20, Tryd.ntmps20
    go_wp2_with fail
    refine HSp.mono ?_
    rintro e w1 ⟨hB1, v1, rfl⟩
    go_wp2_with fail
    go_ret2
    rw [Hfin.out]
    exact ⟨hB1, rfl⟩
  | some ps =>
    rw [hsp] at HSp
    obtain ⟨hps, hpl⟩ := split_sizes hsp
    have Hps := Lib.hid hps
    have HgetT := Lib.hid (show refR s = getP ps from getT_of hsp)
    clear hps hsp
    by_cases h3 : ps.length % 3 = 0
    · obtain ⟨n, hn⟩ : ∃ n, 3 * n = ps.length := ⟨ps.length / 3, by omega⟩
      have Hn := Lib.hid hn
      have hn2 : n ≤ 131072 := by omega
      clear h3 hpl
      go_enter Tryd.func20, Tryd.ntmps20
      go_wp2_with fail
      refine HSp.mono ?_
      rintro e w1 ⟨hB1, v1, rfl, hv1⟩
      obtain ⟨pp, pc, rfl, hp⟩ := strs_at Hn.out hv1
      have Hp := Lib.hid hp
      have HB1 := Lib.hid hB1
      clear hp hv1 hB1 hn
      go_wp2_with fail
      go_loopg [6, 7] n (fun g vo iv wr => ∃ q L, q + g = n ∧ iv = .int .i64 (3 * q : Nat) ∧ decE (ps.take (3 * q)) = some L ∧ L.length = q ∧ LoG 80 34 entV w1 L vo wr)
      case atStart => exact ⟨0, [], by omega, rfl, by rw [Nat.mul_zero, List.take_zero]; rfl, rfl, ⟨rfl, .inl ⟨rfl, rfl⟩⟩, Below.refl _ _⟩
      case round =>
        obtain ⟨q, L, hqg, rfl, hL, hLl, hLo⟩ := hrel
        have hB := hLo.bl
        have HLo := Lib.hid hLo
        have HB := Lib.hid hB
        have HL := Lib.hid hL
        have HLl := Lib.hid hLl
        clear hLo hB hL hLl
        by_cases hlt : q < n
        · have hltI : (3 * q : Int) < (3 * n : Int) := by omega
          have h33 : 3 * q + 3 ≤ ps.length := by have := Hn.out; omega
          obtain ⟨g1, o1, rfl, hg1, hcap1, hmax1, hcell1⟩ := Hp.out (by omega)
          have hA0 := hcell1 (3 * q) (by omega)
          have hA1 := hcell1 (3 * q + 1) (by omega)
          have hA2 := hcell1 (3 * q + 2) (by omega)
          have hc0 := (HB.out.cell (p := ⟨g1, o1 + 3 * q, none⟩) hg1).trans hA0
          have hc1 := (HB.out.cell (p := ⟨g1, o1 + (3 * q + 1), none⟩) hg1).trans hA1
          have hc2 := (HB.out.cell (p := ⟨g1, o1 + (3 * q + 2), none⟩) hg1).trans hA2
          have Hnext := Lib.hid (fun ht => decE_next h33 HL.out ht)
          have Hbad := Lib.hid (fun ht => decE_bad h33 HL.out ht)
          have hza := Hps.out _ (List.getElem_mem (l := ps) (n := 3 * q) (by omega))
          have hzn := Hps.out _ (List.getElem_mem (l := ps) (n := 3 * q + 1) (by omega))
          have hzd := Hps.out _ (List.getElem_mem (l := ps) (n := 3 * q + 2) (by omega))
          clear hcell1
          generalize ps[3 * q] = a at *
          generalize ps[3 * q + 1] = nm at *
          generalize ps[3 * q + 2] = d at *
          by_cases hb : a = kindB false
          · have k1 : (a.toList == (⟨#[98, 108, 111, 98]⟩ : ByteArray).toList) = true := beq_of hb
            have k2 : (a.toList == (⟨#[116, 114, 101, 101]⟩ : ByteArray).toList) = false := beq_of_ne (fun e => kind_ne (hb.symm.trans e))
            have k3 := k1
            have k4 := k2
            rw [blob_list] at k3
            rw [tree_list] at k4
            by_cases h32 : d.size = 32
            · have hdl : d.data.toList.length = 32 := by rw [← Lib.size_eq, h32]
              have Hdl := Lib.hid hdl
              have HRy := Lib.hid (fun w2 => digest_any d w2 h32)
              have ht : triOk a d = true := by unfold triOk; rw [hb, h32]; rfl
              have Hfin := Lib.hid (Hnext.out ht)
              have Het := Lib.hid (show entOf a nm d = (nm, false, d.data.toList, ()) by unfold entOf; rw [hb]; first | rw [decide_eq_true rfl] | rw [decide_eq_false kind_ne])
              have hsI : ((d.size : Int) == 32) = true := beq_iff_eq.2 (by omega)
              clear hdl ht hb
              go_wp2_with fail
              clear hc0 hc1 hc2
              have hd4 : Below wr.heap.size wr wr.drew := (Below.refl _ _).drew
              have hz0 : (0 : Int) ≤ 3 * (q : Int) := by omega
              have hz1 : (0 : Int) ≤ 3 * (q : Int) + 1 := by omega
              have hz2 : (0 : Int) ≤ 3 * (q : Int) + 2 := by omega
              have hn0 : (3 * (q : Int)).toNat = 3 * q := by omega
              have hn1 : (3 * (q : Int) + 1).toNat = 3 * q + 1 := by omega
              have hn2 : (3 * (q : Int) + 2).toNat = 3 * q + 2 := by omega
              have hwr1 : IntKind.i64.wrap (3 * (q : Int) + 1) = 3 * (q : Int) + 1 := wrap_in (by omega) (by omega)
              have hwr2 : IntKind.i64.wrap (3 * (q : Int) + 2) = 3 * (q : Int) + 2 := wrap_in (by omega) (by omega)
              have hj0 : (3 * (q : Int)) < (3 * (n : Int)) := by omega
              have hj1 : (3 * (q : Int) + 1) < (3 * (n : Int)) := by omega
              have hj2 : (3 * (q : Int) + 2) < (3 * (n : Int)) := by omega
              have hRL : ∃ Rs : List (Value → World → Prop), Rs = [OwnG 80 34 entV w1.heap.size u6 L,
                  K2.PureV (.slice (some ⟨g1, o1, none⟩) (3 * n) pc),
                  K2.PureV (.int .i64 (3 * (q : Int))),
                  K2.PureV (.int .i64 (3 * (q : Int) + 1)),
                  K2.PureV (.pointer (some ⟨g1, o1 + (3 * q + 1), none⟩)),
                  K2.PureV (.string nm),
                  K2.PureV (.slice (some ⟨g1, o1, none⟩) (3 * n) pc),
                  K2.PureV (.int .i64 (3 * (q : Int))),
                  K2.PureV (.pointer (some ⟨g1, o1 + 3 * q, none⟩)),
                  K2.PureV (.string a),
                  K2.PureV (.bool false),
                  K2.PureV (.slice (some ⟨g1, o1, none⟩) (3 * n) pc),
                  K2.PureV (.int .i64 (3 * (q : Int))),
                  K2.PureV (.int .i64 (3 * (q : Int) + 2)),
                  K2.PureV (.pointer (some ⟨g1, o1 + (3 * q + 2), none⟩)),
                  K2.PureV (.string d),
                  K2.PureV (.agg (bytV d.data.toList).toArray),
                  K2.PureV (.agg (entV (nm, false, d.data.toList, ())).toArray),
                  K2.NewB 1 (entV (nm, false, d.data.toList, ())).toArray 80,
                  RowG 80 34 entV w1.heap.size (L ++ [(nm, false, d.data.toList, ())]),
                  RowG 80 34 entV w1.heap.size (L ++ [(nm, false, d.data.toList, ())])] := ⟨_, rfl⟩
              obtain ⟨Rs, hRs⟩ := hRL
              refine K2.wp_region_rel2 w1.heap.size HLo.out.bl.size (K2.RL Rs) [1, 2, 2, 2, 2, 2, 2, 2, 2, 2, 2, 2, 2, 2, 2, 2, 2, 2, 1, 1, 1] [1, 1, 1, 1, 1, 1, 1, 1, 1, 1, 1, 1, 1, 1, 1, 1, 1, 1, 1, 2, 1] [[], [], [], [], [], [], [], [], [], [], [], [], [], [], [], [], [], [], [], [0, 18], []] (by kernel_rfl) (by kernel_rfl) (K2.RL.st1 (by rw [hRs]; exact K2.st1_cons (OwnG.st1 _ _ _) (K2.st1_cons (K2.PureV.st1 _) (K2.st1_cons (K2.PureV.st1 _) (K2.st1_cons (K2.PureV.st1 _) (K2.st1_cons (K2.PureV.st1 _) (K2.st1_cons (K2.PureV.st1 _) (K2.st1_cons (K2.PureV.st1 _) (K2.st1_cons (K2.PureV.st1 _) (K2.st1_cons (K2.PureV.st1 _) (K2.st1_cons (K2.PureV.st1 _) (K2.st1_cons (K2.PureV.st1 _) (K2.st1_cons (K2.PureV.st1 _) (K2.st1_cons (K2.PureV.st1 _) (K2.st1_cons (K2.PureV.st1 _) (K2.st1_cons (K2.PureV.st1 _) (K2.st1_cons (K2.PureV.st1 _) (K2.st1_cons (K2.PureV.st1 _) (K2.st1_cons (K2.PureV.st1 _) (K2.st1_cons (K2.NewB.st1 _ _ _) (K2.st1_cons (RowG.st1 _ _) (K2.st1_cons (RowG.st1 _ _) (K2.st1_nil))))))))))))))))))))))) (K2.RL.st2 (by rw [hRs]; exact K2.st2_skip (K2.st2_cons (K2.PureV.st2 _ _ _) (K2.st2_cons (K2.PureV.st2 _ _ _) (K2.st2_cons (K2.PureV.st2 _ _ _) (K2.st2_cons (K2.PureV.st2 _ _ _) (K2.st2_cons (K2.PureV.st2 _ _ _) (K2.st2_cons (K2.PureV.st2 _ _ _) (K2.st2_cons (K2.PureV.st2 _ _ _) (K2.st2_cons (K2.PureV.st2 _ _ _) (K2.st2_cons (K2.PureV.st2 _ _ _) (K2.st2_cons (K2.PureV.st2 _ _ _) (K2.st2_cons (K2.PureV.st2 _ _ _) (K2.st2_cons (K2.PureV.st2 _ _ _) (K2.st2_cons (K2.PureV.st2 _ _ _) (K2.st2_cons (K2.PureV.st2 _ _ _) (K2.st2_cons (K2.PureV.st2 _ _ _) (K2.st2_cons (K2.PureV.st2 _ _ _) (K2.st2_cons (K2.PureV.st2 _ _ _) (K2.st2_skip (K2.st2_skip (K2.st2_skip (K2.st2_nil))))))))))))))))))))))) ?_ ?_ ?_
              · intro i o d hi hd
                have hmem := List.mem_of_getElem? hi
                simp only [List.mem_cons, List.not_mem_nil, or_false] at hmem
                rcases hmem with rfl | rfl | rfl | rfl | rfl | rfl | rfl | rfl | rfl | rfl | rfl | rfl | rfl | rfl | rfl | rfl | rfl | rfl | rfl | rfl | rfl <;> simp at hd <;> (subst hd; simp)
              · refine K2.rel_start (Φ := K2.Hop _ _ _ _ _ _ _) ?_
                refine K2.rel_cons (Φ := K2.Hop _ _ _ _ _ _ _) (k := 0) ?_ ?_
                · intro fa fw hfB hfN hfE hfk hft
                  have hE : Below wr.drew.heap.size wr.drew fw := hfE (by kernel_rfl)
                  have k6 : fa.eval (.tmp 6) = u6 := hft 6 (K2.mem_looks (by kernel_rfl)) (K2.noneed (by kernel_rfl))
                  rw [hRs]
                  refine K2.hop_plain rfl ?_
                  refine K2.out_move rfl ?_
                  exact ⟨⟨k6, gen_own_below HLo.out.ow (hd4.trans (hE.mono hd4.size))⟩, Below.refl _ _⟩
                refine K2.rel_cons (Φ := K2.Hop _ _ _ _ _ _ _) (k := 1) ?_ ?_
                · intro fa fw hfB hfN hfE hfk hft
                  have k4 : fa.eval (.tmp 4) = .slice (some ⟨g1, o1, none⟩) (3 * n) pc := hft 4 (K2.mem_looks (by kernel_rfl)) (K2.noneed (by kernel_rfl))
                  rw [hRs]
                  refine K2.hop_plain rfl ?_
                  refine K2.out_move rfl ?_
                  exact ⟨k4, Below.refl _ _⟩
                refine K2.rel_cons (Φ := K2.Hop _ _ _ _ _ _ _) (k := 2) ?_ ?_
                · intro fa fw hfB hfN hfE hfk hft
                  have k7 : fa.eval (.tmp 7) = .int .i64 (3 * (q : Int)) := hft 7 (K2.mem_looks (by kernel_rfl)) (K2.noneed (by kernel_rfl))
                  rw [hRs]
                  refine K2.hop_plain rfl ?_
                  refine K2.out_move rfl ?_
                  exact ⟨k7, Below.refl _ _⟩
                refine K2.rel_cons (Φ := K2.Hop _ _ _ _ _ _ _) (k := 3) ?_ ?_
                · intro fa fw hfB hfN hfE hfk hft
                  have k50 : fa.eval (.tmp 50) = (.int .i64 (3 * (q : Int))) := by have := hfk 2 (K2.mem_needs (by kernel_rfl)) _ rfl; rw [hRs] at this; exact this
                  rw [hRs]
                  refine K2.hop_plain rfl ?_
                  have kc : ∀ v, fa.eval (.const v) = v := fun _ => rfl
                  generalize fa.eval = ρ at *
                  exact K2.out_run (v := .int .i64 (3 * (q : Int) + 1)) (w' := fw) (by simp [execOp, kc, k50, go_sem, hwr1]) ⟨rfl, Below.refl _ _⟩
                refine K2.rel_cons (Φ := K2.Hop _ _ _ _ _ _ _) (k := 4) ?_ ?_
                · intro fa fw hfB hfN hfE hfk hft
                  have k49 : fa.eval (.tmp 49) = (.slice (some ⟨g1, o1, none⟩) (3 * n) pc) := by have := hfk 1 (K2.mem_needs (by kernel_rfl)) _ rfl; rw [hRs] at this; exact this
                  have k51 : fa.eval (.tmp 51) = (.int .i64 (3 * (q : Int) + 1)) := by have := hfk 3 (K2.mem_needs (by kernel_rfl)) _ rfl; rw [hRs] at this; exact this
                  rw [hRs]
                  refine K2.hop_plain rfl ?_
                  generalize fa.eval = ρ at *
                  exact K2.out_run (v := .pointer (some ⟨g1, o1 + (3 * q + 1), none⟩)) (w' := fw) (by simp [execOp, k49, k51, go_sem, hltI, hlt, hj1, hz1, hn1]) ⟨rfl, Below.refl _ _⟩
                refine K2.rel_cons (Φ := K2.Hop _ _ _ _ _ _ _) (k := 5) ?_ ?_
                · intro fa fw hfB hfN hfE hfk hft
                  have hE : Below wr.drew.heap.size wr.drew fw := hfE (by kernel_rfl)
                  have k52 : fa.eval (.tmp 52) = (.pointer (some ⟨g1, o1 + (3 * q + 1), none⟩)) := by have := hfk 4 (K2.mem_needs (by kernel_rfl)) _ rfl; rw [hRs] at this; exact this
                  rw [hRs]
                  refine K2.hop_plain rfl ?_
                  have h := ((HLo.out.bl.trans (hd4.mono HLo.out.bl.size)).trans (hE.mono (by have := HLo.out.bl.size; have := hd4.size; omega))).cell (p := ⟨g1, o1 + (3 * q + 1), none⟩) hg1
                  exact out_load rfl k52 (by simp [go_sem, h.trans hA1]) ⟨rfl, Below.refl _ _⟩
                refine K2.rel_cons (Φ := K2.Hop _ _ _ _ _ _ _) (k := 6) ?_ ?_
                · intro fa fw hfB hfN hfE hfk hft
                  have k4 : fa.eval (.tmp 4) = .slice (some ⟨g1, o1, none⟩) (3 * n) pc := hft 4 (K2.mem_looks (by kernel_rfl)) (K2.noneed (by kernel_rfl))
                  rw [hRs]
                  refine K2.hop_plain rfl ?_
                  refine K2.out_move rfl ?_
                  exact ⟨k4, Below.refl _ _⟩
                refine K2.rel_cons (Φ := K2.Hop _ _ _ _ _ _ _) (k := 7) ?_ ?_
                · intro fa fw hfB hfN hfE hfk hft
                  have k7 : fa.eval (.tmp 7) = .int .i64 (3 * (q : Int)) := hft 7 (K2.mem_looks (by kernel_rfl)) (K2.noneed (by kernel_rfl))
                  rw [hRs]
                  refine K2.hop_plain rfl ?_
                  refine K2.out_move rfl ?_
                  exact ⟨k7, Below.refl _ _⟩
                refine K2.rel_cons (Φ := K2.Hop _ _ _ _ _ _ _) (k := 8) ?_ ?_
                · intro fa fw hfB hfN hfE hfk hft
                  have k54 : fa.eval (.tmp 54) = (.slice (some ⟨g1, o1, none⟩) (3 * n) pc) := by have := hfk 6 (K2.mem_needs (by kernel_rfl)) _ rfl; rw [hRs] at this; exact this
                  have k55 : fa.eval (.tmp 55) = (.int .i64 (3 * (q : Int))) := by have := hfk 7 (K2.mem_needs (by kernel_rfl)) _ rfl; rw [hRs] at this; exact this
                  rw [hRs]
                  refine K2.hop_plain rfl ?_
                  generalize fa.eval = ρ at *
                  exact K2.out_run (v := .pointer (some ⟨g1, o1 + 3 * q, none⟩)) (w' := fw) (by simp [execOp, k54, k55, go_sem, hltI, hlt, hj0, hz0, hn0]) ⟨rfl, Below.refl _ _⟩
                refine K2.rel_cons (Φ := K2.Hop _ _ _ _ _ _ _) (k := 9) ?_ ?_
                · intro fa fw hfB hfN hfE hfk hft
                  have hE : Below wr.drew.heap.size wr.drew fw := hfE (by kernel_rfl)
                  have k56 : fa.eval (.tmp 56) = (.pointer (some ⟨g1, o1 + 3 * q, none⟩)) := by have := hfk 8 (K2.mem_needs (by kernel_rfl)) _ rfl; rw [hRs] at this; exact this
                  rw [hRs]
                  refine K2.hop_plain rfl ?_
                  have h := ((HLo.out.bl.trans (hd4.mono HLo.out.bl.size)).trans (hE.mono (by have := HLo.out.bl.size; have := hd4.size; omega))).cell (p := ⟨g1, o1 + 3 * q, none⟩) hg1
                  exact out_load rfl k56 (by simp [go_sem, h.trans hA0]) ⟨rfl, Below.refl _ _⟩
                refine K2.rel_cons (Φ := K2.Hop _ _ _ _ _ _ _) (k := 10) ?_ ?_
                · intro fa fw hfB hfN hfE hfk hft
                  have k57 : fa.eval (.tmp 57) = (.string a) := by have := hfk 9 (K2.mem_needs (by kernel_rfl)) _ rfl; rw [hRs] at this; exact this
                  rw [hRs]
                  refine K2.hop_plain rfl ?_
                  have kc : ∀ v, fa.eval (.const v) = v := fun _ => rfl
                  generalize fa.eval = ρ at *
                  exact K2.out_run (v := .bool false) (w' := fw) (by simp [execOp, kc, k57, go_sem, k2, k4]) ⟨rfl, Below.refl _ _⟩
                refine K2.rel_cons (Φ := K2.Hop _ _ _ _ _ _ _) (k := 11) ?_ ?_
                · intro fa fw hfB hfN hfE hfk hft
                  have k4 : fa.eval (.tmp 4) = .slice (some ⟨g1, o1, none⟩) (3 * n) pc := hft 4 (K2.mem_looks (by kernel_rfl)) (K2.noneed (by kernel_rfl))
                  rw [hRs]
                  refine K2.hop_plain rfl ?_
                  refine K2.out_move rfl ?_
                  exact ⟨k4, Below.refl _ _⟩
                refine K2.rel_cons (Φ := K2.Hop _ _ _ _ _ _ _) (k := 12) ?_ ?_
                · intro fa fw hfB hfN hfE hfk hft
                  have k7 : fa.eval (.tmp 7) = .int .i64 (3 * (q : Int)) := hft 7 (K2.mem_looks (by kernel_rfl)) (K2.noneed (by kernel_rfl))
                  rw [hRs]
                  refine K2.hop_plain rfl ?_
                  refine K2.out_move rfl ?_
                  exact ⟨k7, Below.refl _ _⟩
                refine K2.rel_cons (Φ := K2.Hop _ _ _ _ _ _ _) (k := 13) ?_ ?_
                · intro fa fw hfB hfN hfE hfk hft
                  have k60 : fa.eval (.tmp 60) = (.int .i64 (3 * (q : Int))) := by have := hfk 12 (K2.mem_needs (by kernel_rfl)) _ rfl; rw [hRs] at this; exact this
                  rw [hRs]
                  refine K2.hop_plain rfl ?_
                  have kc : ∀ v, fa.eval (.const v) = v := fun _ => rfl
                  generalize fa.eval = ρ at *
                  exact K2.out_run (v := .int .i64 (3 * (q : Int) + 2)) (w' := fw) (by simp [execOp, kc, k60, go_sem, hwr2]) ⟨rfl, Below.refl _ _⟩
                refine K2.rel_cons (Φ := K2.Hop _ _ _ _ _ _ _) (k := 14) ?_ ?_
                · intro fa fw hfB hfN hfE hfk hft
                  have k59 : fa.eval (.tmp 59) = (.slice (some ⟨g1, o1, none⟩) (3 * n) pc) := by have := hfk 11 (K2.mem_needs (by kernel_rfl)) _ rfl; rw [hRs] at this; exact this
                  have k61 : fa.eval (.tmp 61) = (.int .i64 (3 * (q : Int) + 2)) := by have := hfk 13 (K2.mem_needs (by kernel_rfl)) _ rfl; rw [hRs] at this; exact this
                  rw [hRs]
                  refine K2.hop_plain rfl ?_
                  generalize fa.eval = ρ at *
                  exact K2.out_run (v := .pointer (some ⟨g1, o1 + (3 * q + 2), none⟩)) (w' := fw) (by simp [execOp, k59, k61, go_sem, hltI, hlt, hj2, hz2, hn2]) ⟨rfl, Below.refl _ _⟩
                refine K2.rel_cons (Φ := K2.Hop _ _ _ _ _ _ _) (k := 15) ?_ ?_
                · intro fa fw hfB hfN hfE hfk hft
                  have hE : Below wr.drew.heap.size wr.drew fw := hfE (by kernel_rfl)
                  have k62 : fa.eval (.tmp 62) = (.pointer (some ⟨g1, o1 + (3 * q + 2), none⟩)) := by have := hfk 14 (K2.mem_needs (by kernel_rfl)) _ rfl; rw [hRs] at this; exact this
                  rw [hRs]
                  refine K2.hop_plain rfl ?_
                  have h := ((HLo.out.bl.trans (hd4.mono HLo.out.bl.size)).trans (hE.mono (by have := HLo.out.bl.size; have := hd4.size; omega))).cell (p := ⟨g1, o1 + (3 * q + 2), none⟩) hg1
                  exact out_load rfl k62 (by simp [go_sem, h.trans hA2]) ⟨rfl, Below.refl _ _⟩
                refine K2.rel_cons (Φ := K2.Hop _ _ _ _ _ _ _) (k := 16) ?_ ?_
                · intro fa fw hfB hfN hfE hfk hft
                  have k63 : fa.eval (.tmp 63) = (.string d) := by have := hfk 15 (K2.mem_needs (by kernel_rfl)) _ rfl; rw [hRs] at this; exact this
                  rw [hRs]
                  refine K2.hop_plain rfl ?_
                  have kf : fa.eval (.func 55) = .func (.func 55) #[] #[] := rfl
                  refine K2.out_call (f := 55) (args := #[.string d]) (by generalize fa.eval = ρ at *; simp [execOp, k63, kf, go_sem]) ?_
                  refine (HRy.out fw).mono ?_
                  rintro e w' ⟨rfl, hB'⟩
                  exact ⟨_, rfl, rfl, hB'⟩
                refine K2.rel_cons (Φ := K2.Hop _ _ _ _ _ _ _) (k := 17) ?_ ?_
                · intro fa fw hfB hfN hfE hfk hft
                  have k53 : fa.eval (.tmp 53) = (.string nm) := by have := hfk 5 (K2.mem_needs (by kernel_rfl)) _ rfl; rw [hRs] at this; exact this
                  have k58 : fa.eval (.tmp 58) = (.bool false) := by have := hfk 10 (K2.mem_needs (by kernel_rfl)) _ rfl; rw [hRs] at this; exact this
                  have k64 : fa.eval (.tmp 64) = (.agg (bytV d.data.toList).toArray) := by have := hfk 16 (K2.mem_needs (by kernel_rfl)) _ rfl; rw [hRs] at this; exact this
                  rw [hRs]
                  refine K2.hop_plain rfl ?_
                  exact out_build rfl (by simp only [List.map_toArray, List.map_cons, List.map_nil, k53, k58, k64]) (build_ent fw nm false d.data.toList Hdl.out) ⟨rfl, Below.refl _ _⟩
                refine K2.rel_cons (Φ := K2.Hop _ _ _ _ _ _ _) (k := 18) ?_ ?_
                · intro fa fw hfB hfN hfE hfk hft
                  have k65 : fa.eval (.tmp 65) = (.agg (entV (nm, false, d.data.toList, ())).toArray) := by have := hfk 17 (K2.mem_needs (by kernel_rfl)) _ rfl; rw [hRs] at this; exact this
                  rw [hRs]
                  refine K2.hop_plain rfl ?_
                  exact out_buildSlice rfl (by simp only [List.map_toArray, List.map_cons, List.map_nil, k65]) (slice_one eltE fw (nm, false, d.data.toList, ()) (entV_len Hdl.out) (by decide)) ⟨⟨_, rfl, heap_alloc_new _ _⟩, (Below.refl _ _).alloc (Nat.le_refl _) _⟩
                refine K2.rel_cons (Φ := K2.Hop _ _ _ _ _ _ _) (k := 19) ?_ ?_
                · intro fa fw hfB hfN hfE hfk hft
                  have k48 : (OwnG 80 34 entV w1.heap.size u6 L) (fa.eval (.tmp 48)) fw := by have := hfk 0 (K2.mem_needs (by kernel_rfl)) _ rfl; rw [hRs] at this; exact this
                  have k66 : (K2.NewB 1 (entV (nm, false, d.data.toList, ())).toArray 80) (fa.eval (.tmp 66)) fw := by have := hfk 18 (K2.mem_needs (by kernel_rfl)) _ rfl; rw [hRs] at this; exact this
                  rw [hRs]
                  refine K2.hop_plain rfl ?_
                  obtain ⟨hv0, ho0⟩ := k48
                  obtain ⟨B1, hb1, hb2⟩ := k66
                  obtain ⟨v', w', hr, ho, hg⟩ := run_append_gen eltE fw w1.heap.size _ _ _ _ [(nm, false, d.data.toList, ())] ho0 (LAt.block (entV_len Hdl.out) rfl hb2) (by have := HLl.out; simp only [List.length_cons, List.length_nil]; omega) (by unfold maxLen; have := HLl.out; simp only [List.length_cons, List.length_nil]; omega) hfN
                  refine out_append_k (.tmp 48) (.tmp 66) 22 rfl hv0 hb1 hr ⟨(show RowG 80 34 entV w1.heap.size (L ++ [(nm, false, d.data.toList, ())]) v' w' from ⟨by rw [List.length_append, LF_app]; exact ho⟩), ?_⟩
                  exact (Below.refl _ _).grown hg hfN (fun k hk => (ho0.lt k hk).1)
                refine K2.rel_cons (Φ := K2.Hop _ _ _ _ _ _ _) (k := 20) ?_ ?_
                · intro fa fw hfB hfN hfE hfk hft
                  have k67 : (RowG 80 34 entV w1.heap.size (L ++ [(nm, false, d.data.toList, ())])) (fa.eval (.tmp 67)) fw := by have := hfk 19 (K2.mem_needs (by kernel_rfl)) _ rfl; rw [hRs] at this; exact this
                  rw [hRs]
                  refine K2.hop_plain rfl ?_
                  refine K2.out_assign rfl ?_
                  exact ⟨k67, Below.refl _ _⟩
                exact K2.rel_nil
              · intro fa fw hfB hfy hff hfs hfd
                rw [hRs] at hfy
                have k6 : (RowG 80 34 entV w1.heap.size (L ++ [(nm, false, d.data.toList, ())])) (fa.eval (.tmp 6)) fw := hfy 20 _ rfl (K2.unkilled (by decide))
                replace k6 : RowG 80 34 entV w1.heap.size (L ++ [(nm, false, d.data.toList, ())]) (fa.tmps.getD 6 undef) fw := k6
                have HBf := Lib.hid (show Below w1.heap.size w1 fw from HLo.out.bl.drew.trans hfB)
                have e := K2.rel_frame [48, 49, 50, 51, 52, 53, 54, 55, 56, 57, 58, 59, 60, 61, 62, 63, 64, 65, 66, 67, 6] (by kernel_rfl) hff hfs hfd
                simp only [List.foldl] at e
                clear hfy hff hfs hfd 
                generalize fa.tmps.getD 48 undef = x48 at e
                generalize fa.tmps.getD 49 undef = x49 at e
                generalize fa.tmps.getD 50 undef = x50 at e
                generalize fa.tmps.getD 51 undef = x51 at e
                generalize fa.tmps.getD 52 undef = x52 at e
                generalize fa.tmps.getD 53 undef = x53 at e
                generalize fa.tmps.getD 54 undef = x54 at e
                generalize fa.tmps.getD 55 undef = x55 at e
                generalize fa.tmps.getD 56 undef = x56 at e
                generalize fa.tmps.getD 57 undef = x57 at e
                generalize fa.tmps.getD 58 undef = x58 at e
                generalize fa.tmps.getD 59 undef = x59 at e
                generalize fa.tmps.getD 60 undef = x60 at e
                generalize fa.tmps.getD 61 undef = x61 at e
                generalize fa.tmps.getD 62 undef = x62 at e
                generalize fa.tmps.getD 63 undef = x63 at e
                generalize fa.tmps.getD 64 undef = x64 at e
                generalize fa.tmps.getD 65 undef = x65 at e
                generalize fa.tmps.getD 66 undef = x66 at e
                generalize fa.tmps.getD 67 undef = x67 at e
                generalize fa.tmps.getD 6 undef = x6 at e k6
                simp [List.setIfInBounds_toArray, List.set_cons_succ, List.set_cons_zero] at e
                subst e
                have HLn := Lib.hid (show LoG 80 34 entV w1 (L ++ [(nm, false, d.data.toList, ())]) x6 fw from ⟨k6.own, HBf.out⟩)
                clear k6
                go_wp2_with fail
                go_roundg (gk - 1)
                case measure => omega
                case rel => exact ⟨q + 1, L ++ [(nm, false, d.data.toList, ())], by omega, by go_num, by have := Hfin.out; rw [Het.out] at this; exact this, by rw [List.length_append, HLl.out]; rfl, HLn.out⟩
            · have ht : triOk a d = false := by unfold triOk; rw [decide_eq_false h32, Bool.and_false]
              have Hfin := Lib.hid (show refR s = none by rw [HgetT.out]; unfold getP; rw [if_neg (by rw [← Hn.out]; omega), Hbad.out ht])
              have hsI : ((d.size : Int) == 32) = false := beq_eq_false_iff_ne.2 (by omega)
              have hsN : ¬ d.size = 32 := h32
              clear ht hb
              go_wp2_with fail
              go_ret2
              rw [Hfin.out]
              exact ⟨HB1.out.trans (HLo.out.bl.mono HB1.out.size), rfl⟩
          · by_cases htr : a = kindB true
            · have k1 : (a.toList == (⟨#[98, 108, 111, 98]⟩ : ByteArray).toList) = false := beq_of_ne hb
              have k2 : (a.toList == (⟨#[116, 114, 101, 101]⟩ : ByteArray).toList) = true := beq_of htr
              have k3 := k1
              have k4 := k2
              rw [blob_list] at k3
              rw [tree_list] at k4
              by_cases h32 : d.size = 32
              · have hdl : d.data.toList.length = 32 := by rw [← Lib.size_eq, h32]
                have Hdl := Lib.hid hdl
                have HRy := Lib.hid (fun w2 => digest_any d w2 h32)
                have ht : triOk a d = true := by unfold triOk; rw [htr, h32]; rfl
                have Hfin := Lib.hid (Hnext.out ht)
                have Het := Lib.hid (show entOf a nm d = (nm, true, d.data.toList, ()) by unfold entOf; rw [htr]; first | rw [decide_eq_true rfl] | rw [decide_eq_false kind_ne])
                have hsI : ((d.size : Int) == 32) = true := beq_iff_eq.2 (by omega)
                clear hdl ht hb htr
                go_wp2_with fail
                clear hc0 hc1 hc2
                have hd4 : Below wr.heap.size wr wr.drew := (Below.refl _ _).drew
                have hz0 : (0 : Int) ≤ 3 * (q : Int) := by omega
                have hz1 : (0 : Int) ≤ 3 * (q : Int) + 1 := by omega
                have hz2 : (0 : Int) ≤ 3 * (q : Int) + 2 := by omega
                have hn0 : (3 * (q : Int)).toNat = 3 * q := by omega
                have hn1 : (3 * (q : Int) + 1).toNat = 3 * q + 1 := by omega
                have hn2 : (3 * (q : Int) + 2).toNat = 3 * q + 2 := by omega
                have hwr1 : IntKind.i64.wrap (3 * (q : Int) + 1) = 3 * (q : Int) + 1 := wrap_in (by omega) (by omega)
                have hwr2 : IntKind.i64.wrap (3 * (q : Int) + 2) = 3 * (q : Int) + 2 := wrap_in (by omega) (by omega)
                have hj0 : (3 * (q : Int)) < (3 * (n : Int)) := by omega
                have hj1 : (3 * (q : Int) + 1) < (3 * (n : Int)) := by omega
                have hj2 : (3 * (q : Int) + 2) < (3 * (n : Int)) := by omega
                have hRL : ∃ Rs : List (Value → World → Prop), Rs = [OwnG 80 34 entV w1.heap.size u6 L,
                    K2.PureV (.slice (some ⟨g1, o1, none⟩) (3 * n) pc),
                    K2.PureV (.int .i64 (3 * (q : Int))),
                    K2.PureV (.int .i64 (3 * (q : Int) + 1)),
                    K2.PureV (.pointer (some ⟨g1, o1 + (3 * q + 1), none⟩)),
                    K2.PureV (.string nm),
                    K2.PureV (.slice (some ⟨g1, o1, none⟩) (3 * n) pc),
                    K2.PureV (.int .i64 (3 * (q : Int))),
                    K2.PureV (.pointer (some ⟨g1, o1 + 3 * q, none⟩)),
                    K2.PureV (.string a),
                    K2.PureV (.bool true),
                    K2.PureV (.slice (some ⟨g1, o1, none⟩) (3 * n) pc),
                    K2.PureV (.int .i64 (3 * (q : Int))),
                    K2.PureV (.int .i64 (3 * (q : Int) + 2)),
                    K2.PureV (.pointer (some ⟨g1, o1 + (3 * q + 2), none⟩)),
                    K2.PureV (.string d),
                    K2.PureV (.agg (bytV d.data.toList).toArray),
                    K2.PureV (.agg (entV (nm, true, d.data.toList, ())).toArray),
                    K2.NewB 1 (entV (nm, true, d.data.toList, ())).toArray 80,
                    RowG 80 34 entV w1.heap.size (L ++ [(nm, true, d.data.toList, ())]),
                    RowG 80 34 entV w1.heap.size (L ++ [(nm, true, d.data.toList, ())])] := ⟨_, rfl⟩
                obtain ⟨Rs, hRs⟩ := hRL
                refine K2.wp_region_rel2 w1.heap.size HLo.out.bl.size (K2.RL Rs) [1, 2, 2, 2, 2, 2, 2, 2, 2, 2, 2, 2, 2, 2, 2, 2, 2, 2, 1, 1, 1] [1, 1, 1, 1, 1, 1, 1, 1, 1, 1, 1, 1, 1, 1, 1, 1, 1, 1, 1, 2, 1] [[], [], [], [], [], [], [], [], [], [], [], [], [], [], [], [], [], [], [], [0, 18], []] (by kernel_rfl) (by kernel_rfl) (K2.RL.st1 (by rw [hRs]; exact K2.st1_cons (OwnG.st1 _ _ _) (K2.st1_cons (K2.PureV.st1 _) (K2.st1_cons (K2.PureV.st1 _) (K2.st1_cons (K2.PureV.st1 _) (K2.st1_cons (K2.PureV.st1 _) (K2.st1_cons (K2.PureV.st1 _) (K2.st1_cons (K2.PureV.st1 _) (K2.st1_cons (K2.PureV.st1 _) (K2.st1_cons (K2.PureV.st1 _) (K2.st1_cons (K2.PureV.st1 _) (K2.st1_cons (K2.PureV.st1 _) (K2.st1_cons (K2.PureV.st1 _) (K2.st1_cons (K2.PureV.st1 _) (K2.st1_cons (K2.PureV.st1 _) (K2.st1_cons (K2.PureV.st1 _) (K2.st1_cons (K2.PureV.st1 _) (K2.st1_cons (K2.PureV.st1 _) (K2.st1_cons (K2.PureV.st1 _) (K2.st1_cons (K2.NewB.st1 _ _ _) (K2.st1_cons (RowG.st1 _ _) (K2.st1_cons (RowG.st1 _ _) (K2.st1_nil))))))))))))))))))))))) (K2.RL.st2 (by rw [hRs]; exact K2.st2_skip (K2.st2_cons (K2.PureV.st2 _ _ _) (K2.st2_cons (K2.PureV.st2 _ _ _) (K2.st2_cons (K2.PureV.st2 _ _ _) (K2.st2_cons (K2.PureV.st2 _ _ _) (K2.st2_cons (K2.PureV.st2 _ _ _) (K2.st2_cons (K2.PureV.st2 _ _ _) (K2.st2_cons (K2.PureV.st2 _ _ _) (K2.st2_cons (K2.PureV.st2 _ _ _) (K2.st2_cons (K2.PureV.st2 _ _ _) (K2.st2_cons (K2.PureV.st2 _ _ _) (K2.st2_cons (K2.PureV.st2 _ _ _) (K2.st2_cons (K2.PureV.st2 _ _ _) (K2.st2_cons (K2.PureV.st2 _ _ _) (K2.st2_cons (K2.PureV.st2 _ _ _) (K2.st2_cons (K2.PureV.st2 _ _ _) (K2.st2_cons (K2.PureV.st2 _ _ _) (K2.st2_cons (K2.PureV.st2 _ _ _) (K2.st2_skip (K2.st2_skip (K2.st2_skip (K2.st2_nil))))))))))))))))))))))) ?_ ?_ ?_
                · intro i o d hi hd
                  have hmem := List.mem_of_getElem? hi
                  simp only [List.mem_cons, List.not_mem_nil, or_false] at hmem
                  rcases hmem with rfl | rfl | rfl | rfl | rfl | rfl | rfl | rfl | rfl | rfl | rfl | rfl | rfl | rfl | rfl | rfl | rfl | rfl | rfl | rfl | rfl <;> simp at hd <;> (subst hd; simp)
                · refine K2.rel_start (Φ := K2.Hop _ _ _ _ _ _ _) ?_
                  refine K2.rel_cons (Φ := K2.Hop _ _ _ _ _ _ _) (k := 0) ?_ ?_
                  · intro fa fw hfB hfN hfE hfk hft
                    have hE : Below wr.drew.heap.size wr.drew fw := hfE (by kernel_rfl)
                    have k6 : fa.eval (.tmp 6) = u6 := hft 6 (K2.mem_looks (by kernel_rfl)) (K2.noneed (by kernel_rfl))
                    rw [hRs]
                    refine K2.hop_plain rfl ?_
                    refine K2.out_move rfl ?_
                    exact ⟨⟨k6, gen_own_below HLo.out.ow (hd4.trans (hE.mono hd4.size))⟩, Below.refl _ _⟩
                  refine K2.rel_cons (Φ := K2.Hop _ _ _ _ _ _ _) (k := 1) ?_ ?_
                  · intro fa fw hfB hfN hfE hfk hft
                    have k4 : fa.eval (.tmp 4) = .slice (some ⟨g1, o1, none⟩) (3 * n) pc := hft 4 (K2.mem_looks (by kernel_rfl)) (K2.noneed (by kernel_rfl))
                    rw [hRs]
                    refine K2.hop_plain rfl ?_
                    refine K2.out_move rfl ?_
                    exact ⟨k4, Below.refl _ _⟩
                  refine K2.rel_cons (Φ := K2.Hop _ _ _ _ _ _ _) (k := 2) ?_ ?_
                  · intro fa fw hfB hfN hfE hfk hft
                    have k7 : fa.eval (.tmp 7) = .int .i64 (3 * (q : Int)) := hft 7 (K2.mem_looks (by kernel_rfl)) (K2.noneed (by kernel_rfl))
                    rw [hRs]
                    refine K2.hop_plain rfl ?_
                    refine K2.out_move rfl ?_
                    exact ⟨k7, Below.refl _ _⟩
                  refine K2.rel_cons (Φ := K2.Hop _ _ _ _ _ _ _) (k := 3) ?_ ?_
                  · intro fa fw hfB hfN hfE hfk hft
                    have k50 : fa.eval (.tmp 50) = (.int .i64 (3 * (q : Int))) := by have := hfk 2 (K2.mem_needs (by kernel_rfl)) _ rfl; rw [hRs] at this; exact this
                    rw [hRs]
                    refine K2.hop_plain rfl ?_
                    have kc : ∀ v, fa.eval (.const v) = v := fun _ => rfl
                    generalize fa.eval = ρ at *
                    exact K2.out_run (v := .int .i64 (3 * (q : Int) + 1)) (w' := fw) (by simp [execOp, kc, k50, go_sem, hwr1]) ⟨rfl, Below.refl _ _⟩
                  refine K2.rel_cons (Φ := K2.Hop _ _ _ _ _ _ _) (k := 4) ?_ ?_
                  · intro fa fw hfB hfN hfE hfk hft
                    have k49 : fa.eval (.tmp 49) = (.slice (some ⟨g1, o1, none⟩) (3 * n) pc) := by have := hfk 1 (K2.mem_needs (by kernel_rfl)) _ rfl; rw [hRs] at this; exact this
                    have k51 : fa.eval (.tmp 51) = (.int .i64 (3 * (q : Int) + 1)) := by have := hfk 3 (K2.mem_needs (by kernel_rfl)) _ rfl; rw [hRs] at this; exact this
                    rw [hRs]
                    refine K2.hop_plain rfl ?_
                    generalize fa.eval = ρ at *
                    exact K2.out_run (v := .pointer (some ⟨g1, o1 + (3 * q + 1), none⟩)) (w' := fw) (by simp [execOp, k49, k51, go_sem, hltI, hlt, hj1, hz1, hn1]) ⟨rfl, Below.refl _ _⟩
                  refine K2.rel_cons (Φ := K2.Hop _ _ _ _ _ _ _) (k := 5) ?_ ?_
                  · intro fa fw hfB hfN hfE hfk hft
                    have hE : Below wr.drew.heap.size wr.drew fw := hfE (by kernel_rfl)
                    have k52 : fa.eval (.tmp 52) = (.pointer (some ⟨g1, o1 + (3 * q + 1), none⟩)) := by have := hfk 4 (K2.mem_needs (by kernel_rfl)) _ rfl; rw [hRs] at this; exact this
                    rw [hRs]
                    refine K2.hop_plain rfl ?_
                    have h := ((HLo.out.bl.trans (hd4.mono HLo.out.bl.size)).trans (hE.mono (by have := HLo.out.bl.size; have := hd4.size; omega))).cell (p := ⟨g1, o1 + (3 * q + 1), none⟩) hg1
                    exact out_load rfl k52 (by simp [go_sem, h.trans hA1]) ⟨rfl, Below.refl _ _⟩
                  refine K2.rel_cons (Φ := K2.Hop _ _ _ _ _ _ _) (k := 6) ?_ ?_
                  · intro fa fw hfB hfN hfE hfk hft
                    have k4 : fa.eval (.tmp 4) = .slice (some ⟨g1, o1, none⟩) (3 * n) pc := hft 4 (K2.mem_looks (by kernel_rfl)) (K2.noneed (by kernel_rfl))
                    rw [hRs]
                    refine K2.hop_plain rfl ?_
                    refine K2.out_move rfl ?_
                    exact ⟨k4, Below.refl _ _⟩
                  refine K2.rel_cons (Φ := K2.Hop _ _ _ _ _ _ _) (k := 7) ?_ ?_
                  · intro fa fw hfB hfN hfE hfk hft
                    have k7 : fa.eval (.tmp 7) = .int .i64 (3 * (q : Int)) := hft 7 (K2.mem_looks (by kernel_rfl)) (K2.noneed (by kernel_rfl))
                    rw [hRs]
                    refine K2.hop_plain rfl ?_
                    refine K2.out_move rfl ?_
                    exact ⟨k7, Below.refl _ _⟩
                  refine K2.rel_cons (Φ := K2.Hop _ _ _ _ _ _ _) (k := 8) ?_ ?_
                  · intro fa fw hfB hfN hfE hfk hft
                    have k54 : fa.eval (.tmp 54) = (.slice (some ⟨g1, o1, none⟩) (3 * n) pc) := by have := hfk 6 (K2.mem_needs (by kernel_rfl)) _ rfl; rw [hRs] at this; exact this
                    have k55 : fa.eval (.tmp 55) = (.int .i64 (3 * (q : Int))) := by have := hfk 7 (K2.mem_needs (by kernel_rfl)) _ rfl; rw [hRs] at this; exact this
                    rw [hRs]
                    refine K2.hop_plain rfl ?_
                    generalize fa.eval = ρ at *
                    exact K2.out_run (v := .pointer (some ⟨g1, o1 + 3 * q, none⟩)) (w' := fw) (by simp [execOp, k54, k55, go_sem, hltI, hlt, hj0, hz0, hn0]) ⟨rfl, Below.refl _ _⟩
                  refine K2.rel_cons (Φ := K2.Hop _ _ _ _ _ _ _) (k := 9) ?_ ?_
                  · intro fa fw hfB hfN hfE hfk hft
                    have hE : Below wr.drew.heap.size wr.drew fw := hfE (by kernel_rfl)
                    have k56 : fa.eval (.tmp 56) = (.pointer (some ⟨g1, o1 + 3 * q, none⟩)) := by have := hfk 8 (K2.mem_needs (by kernel_rfl)) _ rfl; rw [hRs] at this; exact this
                    rw [hRs]
                    refine K2.hop_plain rfl ?_
                    have h := ((HLo.out.bl.trans (hd4.mono HLo.out.bl.size)).trans (hE.mono (by have := HLo.out.bl.size; have := hd4.size; omega))).cell (p := ⟨g1, o1 + 3 * q, none⟩) hg1
                    exact out_load rfl k56 (by simp [go_sem, h.trans hA0]) ⟨rfl, Below.refl _ _⟩
                  refine K2.rel_cons (Φ := K2.Hop _ _ _ _ _ _ _) (k := 10) ?_ ?_
                  · intro fa fw hfB hfN hfE hfk hft
                    have k57 : fa.eval (.tmp 57) = (.string a) := by have := hfk 9 (K2.mem_needs (by kernel_rfl)) _ rfl; rw [hRs] at this; exact this
                    rw [hRs]
                    refine K2.hop_plain rfl ?_
                    have kc : ∀ v, fa.eval (.const v) = v := fun _ => rfl
                    generalize fa.eval = ρ at *
                    exact K2.out_run (v := .bool true) (w' := fw) (by simp [execOp, kc, k57, go_sem, k2, k4]) ⟨rfl, Below.refl _ _⟩
                  refine K2.rel_cons (Φ := K2.Hop _ _ _ _ _ _ _) (k := 11) ?_ ?_
                  · intro fa fw hfB hfN hfE hfk hft
                    have k4 : fa.eval (.tmp 4) = .slice (some ⟨g1, o1, none⟩) (3 * n) pc := hft 4 (K2.mem_looks (by kernel_rfl)) (K2.noneed (by kernel_rfl))
                    rw [hRs]
                    refine K2.hop_plain rfl ?_
                    refine K2.out_move rfl ?_
                    exact ⟨k4, Below.refl _ _⟩
                  refine K2.rel_cons (Φ := K2.Hop _ _ _ _ _ _ _) (k := 12) ?_ ?_
                  · intro fa fw hfB hfN hfE hfk hft
                    have k7 : fa.eval (.tmp 7) = .int .i64 (3 * (q : Int)) := hft 7 (K2.mem_looks (by kernel_rfl)) (K2.noneed (by kernel_rfl))
                    rw [hRs]
                    refine K2.hop_plain rfl ?_
                    refine K2.out_move rfl ?_
                    exact ⟨k7, Below.refl _ _⟩
                  refine K2.rel_cons (Φ := K2.Hop _ _ _ _ _ _ _) (k := 13) ?_ ?_
                  · intro fa fw hfB hfN hfE hfk hft
                    have k60 : fa.eval (.tmp 60) = (.int .i64 (3 * (q : Int))) := by have := hfk 12 (K2.mem_needs (by kernel_rfl)) _ rfl; rw [hRs] at this; exact this
                    rw [hRs]
                    refine K2.hop_plain rfl ?_
                    have kc : ∀ v, fa.eval (.const v) = v := fun _ => rfl
                    generalize fa.eval = ρ at *
                    exact K2.out_run (v := .int .i64 (3 * (q : Int) + 2)) (w' := fw) (by simp [execOp, kc, k60, go_sem, hwr2]) ⟨rfl, Below.refl _ _⟩
                  refine K2.rel_cons (Φ := K2.Hop _ _ _ _ _ _ _) (k := 14) ?_ ?_
                  · intro fa fw hfB hfN hfE hfk hft
                    have k59 : fa.eval (.tmp 59) = (.slice (some ⟨g1, o1, none⟩) (3 * n) pc) := by have := hfk 11 (K2.mem_needs (by kernel_rfl)) _ rfl; rw [hRs] at this; exact this
                    have k61 : fa.eval (.tmp 61) = (.int .i64 (3 * (q : Int) + 2)) := by have := hfk 13 (K2.mem_needs (by kernel_rfl)) _ rfl; rw [hRs] at this; exact this
                    rw [hRs]
                    refine K2.hop_plain rfl ?_
                    generalize fa.eval = ρ at *
                    exact K2.out_run (v := .pointer (some ⟨g1, o1 + (3 * q + 2), none⟩)) (w' := fw) (by simp [execOp, k59, k61, go_sem, hltI, hlt, hj2, hz2, hn2]) ⟨rfl, Below.refl _ _⟩
                  refine K2.rel_cons (Φ := K2.Hop _ _ _ _ _ _ _) (k := 15) ?_ ?_
                  · intro fa fw hfB hfN hfE hfk hft
                    have hE : Below wr.drew.heap.size wr.drew fw := hfE (by kernel_rfl)
                    have k62 : fa.eval (.tmp 62) = (.pointer (some ⟨g1, o1 + (3 * q + 2), none⟩)) := by have := hfk 14 (K2.mem_needs (by kernel_rfl)) _ rfl; rw [hRs] at this; exact this
                    rw [hRs]
                    refine K2.hop_plain rfl ?_
                    have h := ((HLo.out.bl.trans (hd4.mono HLo.out.bl.size)).trans (hE.mono (by have := HLo.out.bl.size; have := hd4.size; omega))).cell (p := ⟨g1, o1 + (3 * q + 2), none⟩) hg1
                    exact out_load rfl k62 (by simp [go_sem, h.trans hA2]) ⟨rfl, Below.refl _ _⟩
                  refine K2.rel_cons (Φ := K2.Hop _ _ _ _ _ _ _) (k := 16) ?_ ?_
                  · intro fa fw hfB hfN hfE hfk hft
                    have k63 : fa.eval (.tmp 63) = (.string d) := by have := hfk 15 (K2.mem_needs (by kernel_rfl)) _ rfl; rw [hRs] at this; exact this
                    rw [hRs]
                    refine K2.hop_plain rfl ?_
                    have kf : fa.eval (.func 55) = .func (.func 55) #[] #[] := rfl
                    refine K2.out_call (f := 55) (args := #[.string d]) (by generalize fa.eval = ρ at *; simp [execOp, k63, kf, go_sem]) ?_
                    refine (HRy.out fw).mono ?_
                    rintro e w' ⟨rfl, hB'⟩
                    exact ⟨_, rfl, rfl, hB'⟩
                  refine K2.rel_cons (Φ := K2.Hop _ _ _ _ _ _ _) (k := 17) ?_ ?_
                  · intro fa fw hfB hfN hfE hfk hft
                    have k53 : fa.eval (.tmp 53) = (.string nm) := by have := hfk 5 (K2.mem_needs (by kernel_rfl)) _ rfl; rw [hRs] at this; exact this
                    have k58 : fa.eval (.tmp 58) = (.bool true) := by have := hfk 10 (K2.mem_needs (by kernel_rfl)) _ rfl; rw [hRs] at this; exact this
                    have k64 : fa.eval (.tmp 64) = (.agg (bytV d.data.toList).toArray) := by have := hfk 16 (K2.mem_needs (by kernel_rfl)) _ rfl; rw [hRs] at this; exact this
                    rw [hRs]
                    refine K2.hop_plain rfl ?_
                    exact out_build rfl (by simp only [List.map_toArray, List.map_cons, List.map_nil, k53, k58, k64]) (build_ent fw nm true d.data.toList Hdl.out) ⟨rfl, Below.refl _ _⟩
                  refine K2.rel_cons (Φ := K2.Hop _ _ _ _ _ _ _) (k := 18) ?_ ?_
                  · intro fa fw hfB hfN hfE hfk hft
                    have k65 : fa.eval (.tmp 65) = (.agg (entV (nm, true, d.data.toList, ())).toArray) := by have := hfk 17 (K2.mem_needs (by kernel_rfl)) _ rfl; rw [hRs] at this; exact this
                    rw [hRs]
                    refine K2.hop_plain rfl ?_
                    exact out_buildSlice rfl (by simp only [List.map_toArray, List.map_cons, List.map_nil, k65]) (slice_one eltE fw (nm, true, d.data.toList, ()) (entV_len Hdl.out) (by decide)) ⟨⟨_, rfl, heap_alloc_new _ _⟩, (Below.refl _ _).alloc (Nat.le_refl _) _⟩
                  refine K2.rel_cons (Φ := K2.Hop _ _ _ _ _ _ _) (k := 19) ?_ ?_
                  · intro fa fw hfB hfN hfE hfk hft
                    have k48 : (OwnG 80 34 entV w1.heap.size u6 L) (fa.eval (.tmp 48)) fw := by have := hfk 0 (K2.mem_needs (by kernel_rfl)) _ rfl; rw [hRs] at this; exact this
                    have k66 : (K2.NewB 1 (entV (nm, true, d.data.toList, ())).toArray 80) (fa.eval (.tmp 66)) fw := by have := hfk 18 (K2.mem_needs (by kernel_rfl)) _ rfl; rw [hRs] at this; exact this
                    rw [hRs]
                    refine K2.hop_plain rfl ?_
                    obtain ⟨hv0, ho0⟩ := k48
                    obtain ⟨B1, hb1, hb2⟩ := k66
                    obtain ⟨v', w', hr, ho, hg⟩ := run_append_gen eltE fw w1.heap.size _ _ _ _ [(nm, true, d.data.toList, ())] ho0 (LAt.block (entV_len Hdl.out) rfl hb2) (by have := HLl.out; simp only [List.length_cons, List.length_nil]; omega) (by unfold maxLen; have := HLl.out; simp only [List.length_cons, List.length_nil]; omega) hfN
                    refine out_append_k (.tmp 48) (.tmp 66) 22 rfl hv0 hb1 hr ⟨(show RowG 80 34 entV w1.heap.size (L ++ [(nm, true, d.data.toList, ())]) v' w' from ⟨by rw [List.length_append, LF_app]; exact ho⟩), ?_⟩
                    exact (Below.refl _ _).grown hg hfN (fun k hk => (ho0.lt k hk).1)
                  refine K2.rel_cons (Φ := K2.Hop _ _ _ _ _ _ _) (k := 20) ?_ ?_
                  · intro fa fw hfB hfN hfE hfk hft
                    have k67 : (RowG 80 34 entV w1.heap.size (L ++ [(nm, true, d.data.toList, ())])) (fa.eval (.tmp 67)) fw := by have := hfk 19 (K2.mem_needs (by kernel_rfl)) _ rfl; rw [hRs] at this; exact this
                    rw [hRs]
                    refine K2.hop_plain rfl ?_
                    refine K2.out_assign rfl ?_
                    exact ⟨k67, Below.refl _ _⟩
                  exact K2.rel_nil
                · intro fa fw hfB hfy hff hfs hfd
                  rw [hRs] at hfy
                  have k6 : (RowG 80 34 entV w1.heap.size (L ++ [(nm, true, d.data.toList, ())])) (fa.eval (.tmp 6)) fw := hfy 20 _ rfl (K2.unkilled (by decide))
                  replace k6 : RowG 80 34 entV w1.heap.size (L ++ [(nm, true, d.data.toList, ())]) (fa.tmps.getD 6 undef) fw := k6
                  have HBf := Lib.hid (show Below w1.heap.size w1 fw from HLo.out.bl.drew.trans hfB)
                  have e := K2.rel_frame [48, 49, 50, 51, 52, 53, 54, 55, 56, 57, 58, 59, 60, 61, 62, 63, 64, 65, 66, 67, 6] (by kernel_rfl) hff hfs hfd
                  simp only [List.foldl] at e
                  clear hfy hff hfs hfd 
                  generalize fa.tmps.getD 48 undef = x48 at e
                  generalize fa.tmps.getD 49 undef = x49 at e
                  generalize fa.tmps.getD 50 undef = x50 at e
                  generalize fa.tmps.getD 51 undef = x51 at e
                  generalize fa.tmps.getD 52 undef = x52 at e
                  generalize fa.tmps.getD 53 undef = x53 at e
                  generalize fa.tmps.getD 54 undef = x54 at e
                  generalize fa.tmps.getD 55 undef = x55 at e
                  generalize fa.tmps.getD 56 undef = x56 at e
                  generalize fa.tmps.getD 57 undef = x57 at e
                  generalize fa.tmps.getD 58 undef = x58 at e
                  generalize fa.tmps.getD 59 undef = x59 at e
                  generalize fa.tmps.getD 60 undef = x60 at e
                  generalize fa.tmps.getD 61 undef = x61 at e
                  generalize fa.tmps.getD 62 undef = x62 at e
                  generalize fa.tmps.getD 63 undef = x63 at e
                  generalize fa.tmps.getD 64 undef = x64 at e
                  generalize fa.tmps.getD 65 undef = x65 at e
                  generalize fa.tmps.getD 66 undef = x66 at e
                  generalize fa.tmps.getD 67 undef = x67 at e
                  generalize fa.tmps.getD 6 undef = x6 at e k6
                  simp [List.setIfInBounds_toArray, List.set_cons_succ, List.set_cons_zero] at e
                  subst e
                  have HLn := Lib.hid (show LoG 80 34 entV w1 (L ++ [(nm, true, d.data.toList, ())]) x6 fw from ⟨k6.own, HBf.out⟩)
                  clear k6
                  go_wp2_with fail
                  go_roundg (gk - 1)
                  case measure => omega
                  case rel => exact ⟨q + 1, L ++ [(nm, true, d.data.toList, ())], by omega, by go_num, by have := Hfin.out; rw [Het.out] at this; exact this, by rw [List.length_append, HLl.out]; rfl, HLn.out⟩
              · have ht : triOk a d = false := by unfold triOk; rw [decide_eq_false h32, Bool.and_false]
                have Hfin := Lib.hid (show refR s = none by rw [HgetT.out]; unfold getP; rw [if_neg (by rw [← Hn.out]; omega), Hbad.out ht])
                have hsI : ((d.size : Int) == 32) = false := beq_eq_false_iff_ne.2 (by omega)
                have hsN : ¬ d.size = 32 := h32
                clear ht hb htr
                go_wp2_with fail
                go_ret2
                rw [Hfin.out]
                exact ⟨HB1.out.trans (HLo.out.bl.mono HB1.out.size), rfl⟩
            · have k1 : (a.toList == (⟨#[98, 108, 111, 98]⟩ : ByteArray).toList) = false := beq_of_ne hb
              have k2 : (a.toList == (⟨#[116, 114, 101, 101]⟩ : ByteArray).toList) = false := beq_of_ne htr
              have k3 := k1
              have k4 := k2
              rw [blob_list] at k3
              rw [tree_list] at k4
              have ht : triOk a d = false := by unfold triOk; rw [decide_eq_false hb, decide_eq_false htr]; rfl
              have Hfin := Lib.hid (show refR s = none by rw [HgetT.out]; unfold getP; rw [if_neg (by rw [← Hn.out]; omega), Hbad.out ht])
              clear ht hb htr
              go_wp2_with fail
              go_ret2
              rw [Hfin.out]
              exact ⟨HB1.out.trans (HLo.out.bl.mono HB1.out.size), rfl⟩
        · obtain rfl : q = n := by omega
          have hltI : ¬ (3 * q : Int) < (3 * q : Int) := by omega
          have hps : decE ps = some L := by have := HL.out; rwa [List.take_of_length_le (by rw [← Hn.out]; exact Nat.le_refl _)] at this
          obtain ⟨hpe, h32⟩ := decE_some ps L hps
          have hnm : ∀ x ∈ L, x.1.size ≤ s.size := fun x hx => Hps.out _ (by rw [← hpe]; exact List.mem_flatMap.2 ⟨x, hx, by simp [partE]⟩)
          have hrows : Rows wr 34 entR u6 L := (LAt.own (fl := entV) (fun x hx => entV_len (h32 x hx)) HLo.out.ow).rows (fun x hx => entR_of (by have := hnm x hx; omega) (h32 x hx))
          have HG := Lib.hid (refGoodTree_any u6 L wr hrows (fun x hx => by have := hnm x hx; omega) (by have := HLl.out; omega))
          have Hfin := Lib.hid (show refR s = if goodT L = true then some L else none by rw [HgetT.out]; unfold getP; rw [if_neg (by rw [← Hn.out]; omega), hps])
          have Hrows := Lib.hid hrows
          clear hps hpe h32 hnm hrows
          cases hg : goodT L with
          | true =>
            rw [hg] at HG
            rw [hg, if_pos rfl] at Hfin
            clear hg
            go_wp2_with fail
            refine HG.out.mono ?_
            rintro e w5 ⟨rfl, hB5⟩
            have HB5 := Lib.hid (HB1.out.trans ((HLo.out.below hB5).bl.mono HB1.out.size))
            have Hr5 := Lib.hid (Hrows.out.below hB5)
            clear hB5
            go_wp2_with fail
            go_ret2
            rw [Hfin.out]
            exact ⟨HB5.out, _, rfl, Hr5.out⟩
          | false =>
            rw [hg] at HG
            rw [hg, if_neg (by decide)] at Hfin
            clear hg
            go_wp2_with fail
            refine HG.out.mono ?_
            rintro e w5 ⟨rfl, hB5⟩
            have HB5 := Lib.hid (HB1.out.trans ((HLo.out.below hB5).bl.mono HB1.out.size))
            clear hB5
            go_wp2_with fail
            go_ret2
            rw [Hfin.out]
            exact ⟨HB5.out, rfl⟩
    · have Hfin := Lib.hid (show refR s = none by rw [HgetT.out]; unfold getP; rw [if_pos h3])
      obtain ⟨ln, hln⟩ : ∃ ln, ln = ps.length := ⟨_, rfl⟩
      rw [← hln] at h3
      have Hln := Lib.hid hln
      have hln2 : ln ≤ 131072 := by omega
      have hrm2 : ¬ Int.tmod (ln : Int) 3 = 0 := fun h => h3 (by have h2 : Int.ofNat (ln % 3) = Int.ofNat 0 := h; exact Int.ofNat.inj h2)
      have hrm : ((Int.tmod (ln : Int) 3) == 0) = false := beq_eq_false_iff_ne.2 hrm2
      clear hpl hln
      go_enter Tryd.func20, Tryd.ntmps20
      go_wp2_with fail
      refine HSp.mono ?_
      rintro e w1 ⟨hB1, v1, rfl, hv1⟩
      obtain ⟨pp, pc, rfl, -⟩ := strs_at Hln.out hv1
      have HB1 := Lib.hid hB1
      clear hv1 hB1
      go_wp2_with fail
      go_ret2
      rw [Hfin.out]
      exact ⟨HB1.out, rfl⟩
end Go.Proofs.YtdhaanaenklleaaDoor
