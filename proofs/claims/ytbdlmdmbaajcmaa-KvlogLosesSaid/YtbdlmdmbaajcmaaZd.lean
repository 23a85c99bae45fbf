/- A key's entry goes; a record is done. -/
import Derived.Test.YtbdlmdmbaajcmaaZc
namespace Go.Proofs.Ytbdlmdmbaajcmaa
set_option linter.unusedVariables false
set_option linter.unusedSimpArgs false
open Go.ChangeShapes Go.WideShapes Go.ChangeAt Go.RowKit

theorem own_blockG {w : World} {e : TypeId} {s base : Nat} {v : Value} {n : Nat} {xs : List Value} (h : w.ownsRow base e s v n xs) {w' : World} (q : ∀ g, base ≤ g → g < w.heap.size → w'.heap[g]? = w.heap[g]?) : w'.ownsRow base e s v n xs := by
  refine ⟨h.1, ?_⟩
  rcases h.2 with h | ⟨g, cap, cur, hv, hg, hh, rest⟩
  · exact .inl h
  · exact .inr ⟨g, cap, cur, hv, hg, (q g hg (lt_of_block hh)).trans hh, rest⟩
theorem St.put {T : Nat → Prop} {b d : Nat} {nm : ByteArray} {m : Int} {lv lv2 : Value} {L2 : List En} {w : World} (hb : w.heap[b]? = some (.cells (stA d nm m lv) 78 (0, 0))) (ho : w.ownsRow (b + 1) 92 2 lv2 L2.length (LF enV L2)) (hg : ∀ g, lv2.ownBlock = some g → T g) (hs : T b) : St T b d nm m L2 (w.setCell ⟨b, 3, none⟩ lv2) := by
  refine ⟨⟨lv2, ?_, ownsRow_setCell_below ho (by show b < b + 1; omega) _, hg⟩, hs⟩
  have h := block_set (i := 3) (u := lv2) hb
  simpa [stA] using h
theorem kept_cell {T : Nat → Prop} {w : World} {b i : Nat} {v : Value} (hb : T b) : Kept T w (w.setCell ⟨b, i, none⟩ v) := by
  refine ⟨rfl, rfl, rfl, by simp [World.setCell], fun k hk hn => ?_⟩
  show (w.heap.modify b _)[k]? = _
  rw [Array.getElem?_modify, if_neg (fun e => hn (by rw [← e]; exact hb))]
set_option maxRecDepth 100000 in
set_option maxHeartbeats 2000000 in
/-- A key's entry goes. -/
theorem drop_any {T : Nat → Prop} {b d : Nat} {nm : ByteArray} {m : Int} {L : List En} {w : World} (st : St T b d nm m L w) (hl : L.length ≤ 16777216) (k : ByteArray) :
    Calls Try.prog 60 #[.pointer (some ⟨b, 0, none⟩), .string k] w fun e w' => e = .returned (.tuple #[]) ∧ St T b d nm m (dropL L k) w' ∧ Kept T w w' := by
  have HW := Lib.hid (where_any st hl k)
  have HS := Lib.hid st
  unfold dropL
  cases hw : whereL L k with
  | none =>
    rw [hw] at HW
    clear st hw
    go_enter Try.func60, Try.ntmps60
    go_wp2_with fail
    refine HW.out.mono ?_
    rintro e w1 ⟨rfl, hB⟩
    have HB := Lib.hid hB
    clear hB HW
    unfold idxV
    go_wp2_with fail
    exact bodyPost_end (v := .tuple #[]) (by simp [results, Try.results60]) rfl ⟨rfl, HS.out.below HB.out, Kept.of_below HB.out⟩
  | some i =>
    rw [hw] at HW
    obtain ⟨hi, _⟩ := whereL_lt hw
    clear st hw
    dsimp only
    have hi0 : (0 : Int) ≤ (i : Int) := by omega
    have hib : i ≤ 16777216 := by omega
    go_enter Try.func60, Try.ntmps60
    go_wp2_with fail
    refine HW.out.mono ?_
    rintro e w1 ⟨rfl, hB⟩
    have H1 := Lib.hid (HS.out.below hB)
    have HB := Lib.hid hB
    clear hB HW HS
    obtain ⟨lv, h1, h2, h3⟩ := H1.out.f
    have c3 := block_cell h1 3
    rw [show (stA d nm m lv)[3]? = some lv from rfl] at c3
    have HD := Lib.hid (del_any h2 i hi hl (by have := lt_of_block h1; omega))
    have HO := Lib.hid h2
    have Hg := Lib.hid h3
    have Hb := Lib.hid h1
    clear h2 h3 h1
    unfold idxV
    go_wp2_with fail
    refine HD.out.mono ?_
    rintro e w2 ⟨g, c, hlv, rfl, ho, hk⟩
    have hTg : T g := Hg.out g (by rw [hlv]; rfl)
    have hgb : b + 1 ≤ g := (own_lt HO.out g (by rw [hlv]; rfl)).2
    have hb2 := (hk.block b (lt_of_block Hb.out) (by omega)).trans Hb.out
    have c32 := block_cell hb2 3
    rw [show (stA d nm m lv)[3]? = some lv from rfl] at c32
    have f32 := block_free hb2 3
    have HS2 := Lib.hid (St.put (T := T) hb2 ho (fun q hq => by injection hq with hq; rw [← hq]; exact hTg) H1.out.s)
    have HK2 := Lib.hid ((Kept.of_below HB.out).trans' ((hk.mono (fun q hq => by rw [hq]; exact hTg)).trans' (kept_cell (i := 3) (v := .slice (some ⟨g, 0, none⟩) (L.length - 1) c) H1.out.s)))
    clear ho hk hb2 HD c3 hlv
    go_wp2_with fail
    exact bodyPost_end (v := .tuple #[]) (by simp [results, Try.results60]) rfl ⟨rfl, HS2.out, HK2.out⟩
/-! ### A record -/
abbrev wPut : ByteArray := ⟨#[112, 117, 116]⟩
abbrev wGone : ByteArray := ⟨#[103, 111, 110, 101]⟩
/-- What a record that was split does. -/
def doP (L : List En) (P : List ByteArray) : Option (List En) :=
  if P.length = 3 ∧ P.getD 0 ⟨#[]⟩ = wPut then some (dropL L (P.getD 1 ⟨#[]⟩) ++ [(P.getD 1 ⟨#[]⟩, P.getD 2 ⟨#[]⟩)])
  else if P.length = 2 ∧ P.getD 0 ⟨#[]⟩ = wGone then some (dropL L (P.getD 1 ⟨#[]⟩)) else none
def doC (L : List En) (r : ByteArray) : Option (List En) := (C.splitB r).bind (doP L)
theorem dropL_len (L : List En) (k : ByteArray) : (dropL L k).length ≤ L.length := by
  unfold dropL
  split
  · rename_i i h
    obtain ⟨hi, _⟩ := whereL_lt h
    rw [List.length_eraseIdx_of_lt hi]; omega
  · exact Nat.le_refl _
structure StBE (T : Nat → Prop) (b d : Nat) (nm : ByteArray) (m : Int) (L : List En) (w0 : World) (lv v : Value) (w : World) : Prop where
  e : v = lv
  h : w.heap[b]? = some (.cells (stA d nm m lv) 78 (0, 0))
  o : w.ownsRow (b + 1) 92 2 lv L.length (LF enV L)
  bl : Below w0.heap.size w0 w
structure StB (T : Nat → Prop) (b d : Nat) (nm : ByteArray) (m : Int) (L : List En) (w0 : World) (v : Value) (w : World) : Prop where
  f : ∃ u, w.heap[b]? = some (.cells (stA d nm m u) 78 (0, 0)) ∧ w.ownsRow (b + 1) 92 2 v L.length (LF enV L) ∧ ∀ g, v.ownBlock = some g → Gr T w0 w g
  k : Kept T w0 w
structure StF (T : Nat → Prop) (b d : Nat) (nm : ByteArray) (m : Int) (L : List En) (w0 : World) (v : Value) (w : World) : Prop where
  s : St (Gr T w0 w) b d nm m L w
  k : Kept T w0 w
theorem StBE.st1 (T : Nat → Prop) (b d : Nat) (nm : ByteArray) (m : Int) (L : List En) (w0 : World) (lv : Value) : K3.St1 (StBE T b d nm m L w0 lv) := fun v w1 w2 h hB => ⟨h.e, (hB.block _ (lt_of_block h.h)).trans h.h, gen_own_below h.o hB, h.bl.trans (hB.mono h.bl.size)⟩
theorem gr_more {T : Nat → Prop} {w0 w w' : World} (h : w.heap.size ≤ w'.heap.size) : ∀ k, Gr T w0 w k → Gr T w0 w' k := fun k hk => hk.imp id (fun x => ⟨x.1, by omega⟩)
theorem StB.st1 (T : Nat → Prop) (b d : Nat) (nm : ByteArray) (m : Int) (L : List En) (w0 : World) : K3.St1 (StB T b d nm m L w0) := fun v w1 w2 h hB => by
  obtain ⟨u, h1, h2, h3⟩ := h.f
  exact ⟨⟨u, (hB.block _ (lt_of_block h1)).trans h1, gen_own_below h2 hB, fun g hg => gr_more hB.size g (h3 g hg)⟩, h.k.trans' (Kept.of_below hB)⟩
theorem StF.st1 (T : Nat → Prop) (b d : Nat) (nm : ByteArray) (m : Int) (L : List En) (w0 : World) : K3.St1 (StF T b d nm m L w0) := fun v w1 w2 h hB => ⟨(h.s.below hB).mono (gr_more hB.size), h.k.trans' (Kept.of_below hB)⟩
theorem StB.grow {T : Nat → Prop} {b d : Nat} {nm : ByteArray} {m : Int} {L : List En} {w0 w w' : World} {lv v' : Value} {x : En} (hb : w.heap[b]? = some (.cells (stA d nm m lv) 78 (0, 0))) (h0 : w.ownsRow (b + 1) 92 2 lv L.length (LF enV L)) (hB : Below w0.heap.size w0 w) (hT : ∀ g, lv.ownBlock = some g → T g)
    (ho : w'.ownsRow (b + 1) 92 2 v' (L.length + [x].length) (LF enV L ++ LF enV [x])) (hg : w.grownBy w' lv.ownBlock) (ha : v'.ownBlock = lv.ownBlock ∨ v'.ownBlock = some w.heap.size) :
    StB T b d nm m (L ++ [x]) w0 v' w' ∧ Below b w w' := by
  have hB1 : Below (b + 1) w w' := (Below.refl _ _).grown hg (by have := lt_of_block hb; omega) (fun k hk => (own_lt h0 k hk).2)
  refine ⟨⟨⟨lv, (hB1.block b (by omega)).trans hb, by rw [List.length_append, LF_app]; exact ho, fun g hgv => ?_⟩, ?_⟩, hB1.mono (by omega)⟩
  · rcases ha with e | e
    · rw [e] at hgv; exact .inl (hT g hgv)
    · have hlt := (own_lt ho g hgv).1
      rw [e] at hgv
      injection hgv with hgv
      exact .inr ⟨by have := hB.size; omega, hlt⟩
  · refine (Kept.of_below hB).trans' ⟨hg.os, hg.tape, hg.output, hg.size, fun k hk hn => hg.block k hk (fun e => hn (hT k ?_))⟩
    first | exact e | exact e.symm
theorem StB.store {T : Nat → Prop} {b d : Nat} {nm : ByteArray} {m : Int} {L : List En} {w0 w : World} {v : Value} (h : StB T b d nm m L w0 v w) (hs : T b) : StF T b d nm m L w0 undef (w.setCell ⟨b, 3, none⟩ v) := by
  obtain ⟨u, h1, h2, h3⟩ := h.f
  have hsz : w.heap.size = (w.setCell ⟨b, 3, none⟩ v).heap.size := by simp [World.setCell]
  exact ⟨(St.put (T := Gr T w0 w) h1 h2 h3 (.inl hs)).mono (gr_more (by omega)), h.k.trans' (kept_cell hs)⟩
theorem slice_en (w : World) (x : En) : (Instr.buildSlice 76 1 #[(0, .agg (enV x).toArray)]).run Try.prog w = .ok (.slice (some ⟨w.heap.size, 0, none⟩) 1 1) (w.alloc (.cells (enV x).toArray 92)) := by
  simp [enV, go_sem, Instr.buildSlice]
theorem build_en (w : World) (x y : ByteArray) : (Instr.build 92 #[(0, .string x), (1, .string y)]).run Try.prog w = .ok (.agg (enV (x, y)).toArray) w := by
  simp [enV, go_sem, Instr.build]
theorem out_buildSlice3 {P : Program} {o : Oper} {ρ : Operand → Value} {w w' : World} {φ : Value → World → Prop} {ty : TypeId} {n : Nat} {parts : Array (Nat × Operand)} {ps : Array (Nat × Value)} {v : Value} (ho : o.op = .buildSlice ty n parts) (hx : (parts.map fun (i, x) => (i, ρ x)) = ps) (hr : (Instr.buildSlice ty n ps).run P w = .ok v w') (hφ : φ v w') : K3.Out P o ρ w φ := by
  refine K3.out_run (v := v) (w' := w') ?_ hφ
  unfold execOp
  simp only [ho, hx, Sem.run_bind, Sem.run_pure, Result.andThen_ok, hr]
theorem out_build3 {P : Program} {o : Oper} {ρ : Operand → Value} {w : World} {φ : Value → World → Prop} {ty : TypeId} {parts : Array (Nat × Operand)} {ps : Array (Nat × Value)} {v : Value} (ho : o.op = .build ty parts) (hx : (parts.map fun (i, x) => (i, ρ x)) = ps) (hr : (Instr.build ty ps).run P w = .ok v w) (hφ : φ v w) : K3.Out P o ρ w φ := by
  refine K3.out_run (v := v) (w' := w) ?_ hφ
  unfold execOp
  simp only [ho, hx, Sem.run_bind, Sem.run_pure, Result.andThen_ok, hr]
theorem Kept.cell' {T : Nat → Prop} {w w' : World} (h : Kept T w w') {g : Nat} (hg : g < w.heap.size) (hn : ¬ T g) (i : Nat) : w'.cell? ⟨g, i, none⟩ = w.cell? ⟨g, i, none⟩ := by
  simp only [World.cell?, h.block g hg hn]
theorem out_store76 {o : Oper} {ρ : Operand → Value} {w : World} {φ : Value → World → Prop} {x y : Operand} {B i t : Nat} {p : Option Addr} {n c : Nat} {R : Array Value} (ho : o.op = .store 76 x y) (hx : ρ x = .pointer (some ⟨B, i, none⟩)) (hy : ρ y = .slice p n c)
    (hg : w.heap[B]? = some (.cells R t (0, 0))) (hi : i < R.size) (hφ : φ undef (w.setCell ⟨B, i, none⟩ (.slice p n c))) : K3.Out Try.prog o ρ w φ := by
  have hc : w.cell? ⟨B, i, none⟩ = some R[i] := by simp [World.cell?, hg, hi]
  have hf : w.frozen? ⟨B, i, none⟩ = false := by simp [World.frozen?, hg]
  have hw : (storeVar 76 ⟨B, i, none⟩ (.slice p n c)).run Try.prog w = .ok () (w.setCell ⟨B, i, none⟩ (.slice p n c)) := by
    simp [storeVar, go_sem, hc, hf]
  unfold K3.Out execOp
  simp only [ho, hx, hy, Instr.storeAt, Instr.sureAddr, Sem.run_bind, Sem.run_pure, Result.andThen_ok, hw]
  exact hφ
/-- A row of parts. -/
theorem parts_cells {w : World} {base : Nat} {v : Value} {P : List ByteArray} (h : w.ownsRow base 9 1 v P.length (P.map Value.string)) : (∃ p c, v = .slice p P.length c) ∧ (0 < P.length → ∃ g c, v = .slice (some ⟨g, 0, none⟩) P.length c ∧ base ≤ g ∧ g < w.heap.size ∧ P.length ≤ c ∧ c ≤ maxLen ∧ ∀ i (hi : i < P.length), w.cell? ⟨g, i, none⟩ = some (.string P[i])) := by
  rcases h.2 with ⟨rfl, h0⟩ | ⟨g, cap, cur, rfl, hb, hg, hcap, hmax, hsz, htake⟩
  · exact ⟨⟨none, 0, by rw [h0]⟩, fun h => by omega⟩
  · refine ⟨⟨_, cap, rfl⟩, fun _ => ⟨g, cap, rfl, hb, lt_of_block hg, hcap, hmax, fun i hi => ?_⟩⟩
    rw [block_cell hg]
    have : (P.map Value.string)[i]? = some (.string P[i]) := by simp [hi]
    rw [← this, ← htake, List.getElem?_take_of_lt (by omega), Array.getElem?_toList]
def DoEnd (T : Nat → Prop) (b d : Nat) (nm : ByteArray) (m : Int) (L : List En) (r : Option (List En)) (w : World) (e : Ending) (w' : World) : Prop :=
  e = .returned (.bool r.isSome) ∧ St (Gr T w w') b d nm m (r.getD L) w' ∧ Kept T w w'
set_option maxRecDepth 100000 in
set_option maxHeartbeats 8000000 in
/-- A record is done. -/
theorem do_any {T : Nat → Prop} {b d : Nat} {nm : ByteArray} {m : Int} {L : List En} {w : World} (st : St T b d nm m L w) (hT : ∀ k, T k → k < w.heap.size) (hl : L.length ≤ 8388608) (r : ByteArray) (hr : r.size ≤ 1048576) :
    Calls Try.prog 33 #[.pointer (some ⟨b, 0, none⟩), .string r] w (DoEnd T b d nm m L (doC L r) w) := by
  have HS := Lib.hid st
  have HC := Lib.hid (C.split_any r w hr)
  have HR := Lib.hid (show doC L r = (C.splitB r).bind (doP L) from rfl)
  have HTl := Lib.hid hT
  clear st hT
  cases hsp : C.splitB r with
  | none =>
    rw [hsp] at HC HR
    rw [show doC L r = none from HR.out]
    clear hsp HR
    go_enter Try.func33, Try.ntmps33
    go_wp2_with fail
    refine HC.out.mono ?_
    rintro e w1 ⟨hB, rfl⟩
    have HB := Lib.hid hB
    clear hB HC
    go_wp2_with fail
    go_ret
    exact ⟨rfl, (HS.out.below HB.out).mono (fun k hk => .inl hk), Kept.of_below HB.out⟩
  | some P =>
  rw [hsp] at HC HR
  rw [show doC L r = doP L P from HR.out]
  clear hsp HR
  by_cases h3 : P.length = 3
  · obtain ⟨a, k, v, rfl⟩ : ∃ a k v, P = [a, k, v] := by
      match P, h3 with
      | [a, k, v], _ => exact ⟨a, k, v, rfl⟩
    have ka := str_lit a #[112, 117, 116]
    by_cases hp : a = wPut
    · rw [show doP L [a, k, v] = some (dropL L k ++ [(k, v)]) from by unfold doP; rw [if_pos ⟨rfl, hp⟩]; rfl]
      rw [decide_eq_true hp] at ka
      clear h3 hp
      go_enter Try.func33, Try.ntmps33
      go_wp2_with fail
      refine HC.out.mono ?_
      rintro e w1 ⟨hB, u, rfl, hown⟩
      obtain ⟨_, hq⟩ := parts_cells hown
      obtain ⟨g5, c5, rfl, hg0, hg5, hc5, hm5, hcell⟩ := hq (by simp)
      have hc0 := hcell 0 (by simp)
      have hc1 := hcell 1 (by simp)
      have hc2 := hcell 2 (by simp)
      simp only [List.getElem_cons_zero, List.getElem_cons_succ] at hc0 hc1 hc2
      have S1 := Lib.hid (HS.out.below hB)
      have HB := Lib.hid hB
      have HD := Lib.hid (drop_any (HS.out.below hB) (by omega) k)
      have hgT : ¬ T g5 := fun h => by have := HTl.out g5 h; omega
      simp only [List.length_cons, List.length_nil] at hc5 ⊢
      clear hB hown hcell HC HS
      go_wp2_with fail
      refine HD.out.mono ?_
      rintro e w2 ⟨rfl, hS2, hK2⟩
      have d1 := (Kept.cell' hK2 hg5 hgT 1).trans hc1
      have d2 := (Kept.cell' hK2 hg5 hgT 2).trans hc2
      have hg52 := Nat.lt_of_lt_of_le hg5 hK2.size
      have HK := Lib.hid ((Kept.of_below HB.out).trans' hK2)
      have HS2 := Lib.hid hS2
      have hdl := dropL_len L k
      clear hK2 hS2 HD hc0 hc1 hc2 S1
      generalize dropL L k = L at *
      obtain ⟨lv, hbox, hO, hTg⟩ := HS2.out.f
      have hlt := lt_of_block hbox
      have hble : b ≤ w2.heap.size := Nat.le_of_lt hlt
      have HO := Lib.hid hO
      have HT := Lib.hid hTg
      have HS := Lib.hid HS2.out.s
      clear hO hTg HB ka
      go_upto_region 7 with fail
      generalize w2 = w10 at *
      have hd4 : Below w10.heap.size w10 w10.drew := (Below.refl _ _).drew
      have hRL : ∃ Rs : List (Value → World → Prop), Rs = [K3.PureV (.pointer (some ⟨b, 0, none⟩)),
          K3.PureV (.pointer (some ⟨b, 0, none⟩)),
          K3.PureV (.pointer (some ⟨b, 0, none⟩)),
          K3.PureV (.pointer (some ⟨b, 3, none⟩)),
          StBE T b d nm m L w10 lv,
          K3.PureV (.slice (some ⟨g5, 0, none⟩) 3 c5),
          K3.PureV (.pointer (some ⟨g5, 1, none⟩)),
          K3.PureV (.string k),
          K3.PureV (.slice (some ⟨g5, 0, none⟩) 3 c5),
          K3.PureV (.pointer (some ⟨g5, 2, none⟩)),
          K3.PureV (.string v),
          K3.PureV (.agg (enV (k, v)).toArray),
          K3.NewB 1 (enV (k, v)).toArray 92,
          StB T b d nm m (L ++ [(k, v)]) w10,
          K3.PureV (.pointer (some ⟨b, 0, none⟩)),
          K3.PureV (.pointer (some ⟨b, 3, none⟩)),
          StF T b d nm m (L ++ [(k, v)]) w10] := ⟨_, rfl⟩
      obtain ⟨Rs, hRs⟩ := hRL
      refine K3.wp_region_rel2 b hble (K3.RL Rs) [2, 2, 2, 2, 1, 2, 2, 2, 2, 2, 2, 2, 1, 1, 2, 2, 1] [1, 1, 1, 1, 1, 1, 1, 1, 1, 1, 1, 1, 1, 2, 1, 1, 2] [[], [], [], [], [], [], [], [], [], [], [], [], [], [4, 12], [], [], [4, 12, 13]] (by kernel_rfl) (by kernel_rfl) (K3.RL.st1 (by rw [hRs]; exact K3.st1_cons (K3.PureV.st1 _) (K3.st1_cons (K3.PureV.st1 _) (K3.st1_cons (K3.PureV.st1 _) (K3.st1_cons (K3.PureV.st1 _) (K3.st1_cons (StBE.st1 _ _ _ _ _ _ _ _) (K3.st1_cons (K3.PureV.st1 _) (K3.st1_cons (K3.PureV.st1 _) (K3.st1_cons (K3.PureV.st1 _) (K3.st1_cons (K3.PureV.st1 _) (K3.st1_cons (K3.PureV.st1 _) (K3.st1_cons (K3.PureV.st1 _) (K3.st1_cons (K3.PureV.st1 _) (K3.st1_cons (K3.NewB.st1 _ _ _) (K3.st1_cons (StB.st1 _ _ _ _ _ _ _) (K3.st1_cons (K3.PureV.st1 _) (K3.st1_cons (K3.PureV.st1 _) (K3.st1_cons (StF.st1 _ _ _ _ _ _ _) (K3.st1_nil))))))))))))))))))) (K3.RL.st2 (by rw [hRs]; exact K3.st2_cons (K3.PureV.st2 _ _ _) (K3.st2_cons (K3.PureV.st2 _ _ _) (K3.st2_cons (K3.PureV.st2 _ _ _) (K3.st2_cons (K3.PureV.st2 _ _ _) (K3.st2_skip (K3.st2_cons (K3.PureV.st2 _ _ _) (K3.st2_cons (K3.PureV.st2 _ _ _) (K3.st2_cons (K3.PureV.st2 _ _ _) (K3.st2_cons (K3.PureV.st2 _ _ _) (K3.st2_cons (K3.PureV.st2 _ _ _) (K3.st2_cons (K3.PureV.st2 _ _ _) (K3.st2_cons (K3.PureV.st2 _ _ _) (K3.st2_skip (K3.st2_skip (K3.st2_cons (K3.PureV.st2 _ _ _) (K3.st2_cons (K3.PureV.st2 _ _ _) (K3.st2_skip (K3.st2_nil))))))))))))))))))) ?_ ?_ ?_
      · intro i o d hi hd
        have hmem := List.mem_of_getElem? hi
        simp only [List.mem_cons, List.not_mem_nil, or_false] at hmem
        rcases hmem with rfl | rfl | rfl | rfl | rfl | rfl | rfl | rfl | rfl | rfl | rfl | rfl | rfl | rfl | rfl | rfl | rfl <;> simp at hd <;> (subst hd; simp)
      · refine K3.rel_start (Φ := K3.Hop _ _ _ _ _ _ _) ?_
        refine K3.rel_cons (Φ := K3.Hop _ _ _ _ _ _ _) (k := 0) ?_ ?_
        · intro fa fw hfB hfN hfE hfk hft
          have k0 : fa.eval (.tmp 0) = .pointer (some ⟨b, 0, none⟩) := hft 0 (K3.mem_looks (by kernel_rfl)) (K3.noneed (by kernel_rfl))
          rw [hRs]
          refine K3.hop_plain rfl ?_
          refine K3.out_move rfl ?_
          exact ⟨k0, Below.refl _ _⟩
        refine K3.rel_cons (Φ := K3.Hop _ _ _ _ _ _ _) (k := 1) ?_ ?_
        · intro fa fw hfB hfN hfE hfk hft
          have k0 : fa.eval (.tmp 0) = .pointer (some ⟨b, 0, none⟩) := hft 0 (K3.mem_looks (by kernel_rfl)) (K3.noneed (by kernel_rfl))
          rw [hRs]
          refine K3.hop_plain rfl ?_
          refine K3.out_move rfl ?_
          exact ⟨k0, Below.refl _ _⟩
        refine K3.rel_cons (Φ := K3.Hop _ _ _ _ _ _ _) (k := 2) ?_ ?_
        · intro fa fw hfB hfN hfE hfk hft
          have k31 : fa.eval (.tmp 31) = (.pointer (some ⟨b, 0, none⟩)) := by have := hfk 1 (K3.mem_needs (by kernel_rfl)) _ rfl; rw [hRs] at this; exact this
          rw [hRs]
          refine K3.hop_plain rfl ?_
          have kc : ∀ v, fa.eval (.const v) = v := fun _ => rfl
          generalize fa.eval = ρ at *
          exact K3.out_run (v := .pointer (some ⟨b, 0, none⟩)) (w' := fw) (by simp [execOp, kc, k31, go_sem]) ⟨rfl, Below.refl _ _⟩
        refine K3.rel_cons (Φ := K3.Hop _ _ _ _ _ _ _) (k := 3) ?_ ?_
        · intro fa fw hfB hfN hfE hfk hft
          have k32 : fa.eval (.tmp 32) = (.pointer (some ⟨b, 0, none⟩)) := by have := hfk 2 (K3.mem_needs (by kernel_rfl)) _ rfl; rw [hRs] at this; exact this
          rw [hRs]
          refine K3.hop_plain rfl ?_
          have kc : ∀ v, fa.eval (.const v) = v := fun _ => rfl
          generalize fa.eval = ρ at *
          exact K3.out_run (v := .pointer (some ⟨b, 3, none⟩)) (w' := fw) (by simp [execOp, kc, k32, go_sem]) ⟨rfl, Below.refl _ _⟩
        refine K3.rel_cons (Φ := K3.Hop _ _ _ _ _ _ _) (k := 4) ?_ ?_
        · intro fa fw hfB hfN hfE hfk hft
          have hE : Below w10.drew.heap.size w10.drew fw := hfE (by kernel_rfl)
          have k33 : fa.eval (.tmp 33) = (.pointer (some ⟨b, 3, none⟩)) := by have := hfk 3 (K3.mem_needs (by kernel_rfl)) _ rfl; rw [hRs] at this; exact this
          rw [hRs]
          refine K3.hop_plain rfl ?_
          have hbx := (hE.block b (Nat.lt_of_lt_of_le hlt hd4.size)).trans (show w10.drew.heap[b]? = _ from hbox)
          have hB9 := hd4.trans (hE.mono hd4.size)
          exact out_load3 rfl k33 (by simp [stA, go_sem, block_cell hbx]) ⟨⟨rfl, hbx, gen_own_below HO.out hB9, hB9⟩, Below.refl _ _⟩
        refine K3.rel_cons (Φ := K3.Hop _ _ _ _ _ _ _) (k := 5) ?_ ?_
        · intro fa fw hfB hfN hfE hfk hft
          have k5 : fa.eval (.tmp 5) = .slice (some ⟨g5, 0, none⟩) 3 c5 := hft 5 (K3.mem_looks (by kernel_rfl)) (K3.noneed (by kernel_rfl))
          rw [hRs]
          refine K3.hop_plain rfl ?_
          refine K3.out_move rfl ?_
          exact ⟨k5, Below.refl _ _⟩
        refine K3.rel_cons (Φ := K3.Hop _ _ _ _ _ _ _) (k := 6) ?_ ?_
        · intro fa fw hfB hfN hfE hfk hft
          have k35 : fa.eval (.tmp 35) = (.slice (some ⟨g5, 0, none⟩) 3 c5) := by have := hfk 5 (K3.mem_needs (by kernel_rfl)) _ rfl; rw [hRs] at this; exact this
          rw [hRs]
          refine K3.hop_plain rfl ?_
          have kc : ∀ v, fa.eval (.const v) = v := fun _ => rfl
          generalize fa.eval = ρ at *
          exact K3.out_run (v := .pointer (some ⟨g5, 1, none⟩)) (w' := fw) (by simp [execOp, kc, k35, go_sem]) ⟨rfl, Below.refl _ _⟩
        refine K3.rel_cons (Φ := K3.Hop _ _ _ _ _ _ _) (k := 7) ?_ ?_
        · intro fa fw hfB hfN hfE hfk hft
          have hE : Below w10.drew.heap.size w10.drew fw := hfE (by kernel_rfl)
          have k36 : fa.eval (.tmp 36) = (.pointer (some ⟨g5, 1, none⟩)) := by have := hfk 6 (K3.mem_needs (by kernel_rfl)) _ rfl; rw [hRs] at this; exact this
          rw [hRs]
          refine K3.hop_plain rfl ?_
          have hbx := (hE.cell (p := ⟨g5, 1, none⟩) (Nat.lt_of_lt_of_le hg52 hd4.size)).trans (show w10.drew.cell? ⟨g5, 1, none⟩ = _ from d1)
          exact out_load3 rfl k36 (by simp [go_sem, hbx]) ⟨rfl, Below.refl _ _⟩
        refine K3.rel_cons (Φ := K3.Hop _ _ _ _ _ _ _) (k := 8) ?_ ?_
        · intro fa fw hfB hfN hfE hfk hft
          have k5 : fa.eval (.tmp 5) = .slice (some ⟨g5, 0, none⟩) 3 c5 := hft 5 (K3.mem_looks (by kernel_rfl)) (K3.noneed (by kernel_rfl))
          rw [hRs]
          refine K3.hop_plain rfl ?_
          refine K3.out_move rfl ?_
          exact ⟨k5, Below.refl _ _⟩
        refine K3.rel_cons (Φ := K3.Hop _ _ _ _ _ _ _) (k := 9) ?_ ?_
        · intro fa fw hfB hfN hfE hfk hft
          have k38 : fa.eval (.tmp 38) = (.slice (some ⟨g5, 0, none⟩) 3 c5) := by have := hfk 8 (K3.mem_needs (by kernel_rfl)) _ rfl; rw [hRs] at this; exact this
          rw [hRs]
          refine K3.hop_plain rfl ?_
          have kc : ∀ v, fa.eval (.const v) = v := fun _ => rfl
          generalize fa.eval = ρ at *
          exact K3.out_run (v := .pointer (some ⟨g5, 2, none⟩)) (w' := fw) (by simp [execOp, kc, k38, go_sem]) ⟨rfl, Below.refl _ _⟩
        refine K3.rel_cons (Φ := K3.Hop _ _ _ _ _ _ _) (k := 10) ?_ ?_
        · intro fa fw hfB hfN hfE hfk hft
          have hE : Below w10.drew.heap.size w10.drew fw := hfE (by kernel_rfl)
          have k39 : fa.eval (.tmp 39) = (.pointer (some ⟨g5, 2, none⟩)) := by have := hfk 9 (K3.mem_needs (by kernel_rfl)) _ rfl; rw [hRs] at this; exact this
          rw [hRs]
          refine K3.hop_plain rfl ?_
          have hbx := (hE.cell (p := ⟨g5, 2, none⟩) (Nat.lt_of_lt_of_le hg52 hd4.size)).trans (show w10.drew.cell? ⟨g5, 2, none⟩ = _ from d2)
          exact out_load3 rfl k39 (by simp [go_sem, hbx]) ⟨rfl, Below.refl _ _⟩
        refine K3.rel_cons (Φ := K3.Hop _ _ _ _ _ _ _) (k := 11) ?_ ?_
        · intro fa fw hfB hfN hfE hfk hft
          have k37 : fa.eval (.tmp 37) = (.string k) := by have := hfk 7 (K3.mem_needs (by kernel_rfl)) _ rfl; rw [hRs] at this; exact this
          have k40 : fa.eval (.tmp 40) = (.string v) := by have := hfk 10 (K3.mem_needs (by kernel_rfl)) _ rfl; rw [hRs] at this; exact this
          rw [hRs]
          refine K3.hop_plain rfl ?_
          exact out_build3 rfl (by simp only [List.map_toArray, List.map_cons, List.map_nil, k37, k40]) (build_en fw k v) ⟨rfl, Below.refl _ _⟩
        refine K3.rel_cons (Φ := K3.Hop _ _ _ _ _ _ _) (k := 12) ?_ ?_
        · intro fa fw hfB hfN hfE hfk hft
          have k41 : fa.eval (.tmp 41) = (.agg (enV (k, v)).toArray) := by have := hfk 11 (K3.mem_needs (by kernel_rfl)) _ rfl; rw [hRs] at this; exact this
          rw [hRs]
          refine K3.hop_plain rfl ?_
          exact out_buildSlice3 rfl (by simp only [List.map_toArray, List.map_cons, List.map_nil, k41]) (slice_en fw (k, v)) ⟨⟨_, rfl, heap_alloc_new _ _⟩, (Below.refl _ _).alloc (Nat.le_refl _) _⟩
        refine K3.rel_cons (Φ := K3.Hop _ _ _ _ _ _ _) (k := 13) ?_ ?_
        · intro fa fw hfB hfN hfE hfk hft
          have k34 : (StBE T b d nm m L w10 lv) (fa.eval (.tmp 34)) fw := by have := hfk 4 (K3.mem_needs (by kernel_rfl)) _ rfl; rw [hRs] at this; exact this
          have k42 : (K3.NewB 1 (enV (k, v)).toArray 92) (fa.eval (.tmp 42)) fw := by have := hfk 12 (K3.mem_needs (by kernel_rfl)) _ rfl; rw [hRs] at this; exact this
          rw [hRs]
          refine K3.hop_plain rfl ?_
          obtain ⟨hv0, hb0, ho0, hB0⟩ := k34
          obtain ⟨B1, hb1, hb2⟩ := k42
          obtain ⟨v', w', hr, ho, hg, ha⟩ := run_append_gen2 eltN fw (b + 1) _ _ _ _ [(k, v)] ho0 (LAt.block rfl rfl hb2) (by simp only [List.length_cons, List.length_nil]; omega) (by unfold maxLen; simp only [List.length_cons, List.length_nil]; omega) (by have := lt_of_block hb0; omega)
          obtain ⟨z1, z2⟩ := StB.grow (T := T) (d := d) (nm := nm) (m := m) hb0 ho0 hB0 HT.out ho hg ha
          exact out_append_k3 (.tmp 34) (.tmp 42) 76 rfl hv0 hb1 hr ⟨z1, z2⟩
        refine K3.rel_cons (Φ := K3.Hop _ _ _ _ _ _ _) (k := 14) ?_ ?_
        · intro fa fw hfB hfN hfE hfk hft
          have k30 : fa.eval (.tmp 30) = (.pointer (some ⟨b, 0, none⟩)) := by have := hfk 0 (K3.mem_needs (by kernel_rfl)) _ rfl; rw [hRs] at this; exact this
          rw [hRs]
          refine K3.hop_plain rfl ?_
          have kc : ∀ v, fa.eval (.const v) = v := fun _ => rfl
          generalize fa.eval = ρ at *
          exact K3.out_run (v := .pointer (some ⟨b, 0, none⟩)) (w' := fw) (by simp [execOp, kc, k30, go_sem]) ⟨rfl, Below.refl _ _⟩
        refine K3.rel_cons (Φ := K3.Hop _ _ _ _ _ _ _) (k := 15) ?_ ?_
        · intro fa fw hfB hfN hfE hfk hft
          have k44 : fa.eval (.tmp 44) = (.pointer (some ⟨b, 0, none⟩)) := by have := hfk 14 (K3.mem_needs (by kernel_rfl)) _ rfl; rw [hRs] at this; exact this
          rw [hRs]
          refine K3.hop_plain rfl ?_
          have kc : ∀ v, fa.eval (.const v) = v := fun _ => rfl
          generalize fa.eval = ρ at *
          exact K3.out_run (v := .pointer (some ⟨b, 3, none⟩)) (w' := fw) (by simp [execOp, kc, k44, go_sem]) ⟨rfl, Below.refl _ _⟩
        refine K3.rel_cons (Φ := K3.Hop _ _ _ _ _ _ _) (k := 16) ?_ ?_
        · intro fa fw hfB hfN hfE hfk hft
          have k45 : fa.eval (.tmp 45) = (.pointer (some ⟨b, 3, none⟩)) := by have := hfk 15 (K3.mem_needs (by kernel_rfl)) _ rfl; rw [hRs] at this; exact this
          have k43 : (StB T b d nm m (L ++ [(k, v)]) w10) (fa.eval (.tmp 43)) fw := by have := hfk 13 (K3.mem_needs (by kernel_rfl)) _ rfl; rw [hRs] at this; exact this
          rw [hRs]
          refine K3.hop_plain rfl ?_
          obtain ⟨u1, q1, q2, q3⟩ := k43.f
          obtain ⟨p6, c6, hv6⟩ := own_sliceN q2
          have hst := k43.store HS.out
          rw [hv6] at hst
          exact out_store76 rfl k45 (show fa.eval (.tmp 43) = _ from hv6) q1 (by simp [stA]) ⟨⟨hst.s, hst.k⟩, (Below.refl b fw).setCell (p := ⟨b, 3, none⟩) (Nat.le_refl b) _⟩
        exact K3.rel_nil
      · intro fa fw hfB hfy hff hfs hfd
        rw [hRs] at hfy
        have k45 : StF T b d nm m (L ++ [(k, v)]) w10 (fa.tmps.getD 45 undef) fw := hfy 16 _ rfl (K3.unkilled (by decide))
        have e := K3.rel_frame [30, 31, 32, 33, 34, 35, 36, 37, 38, 39, 40, 41, 42, 43, 44, 45] (by kernel_rfl) hff hfs hfd
        simp only [List.foldl] at e
        clear hfy hff hfs hfd 
        generalize fa.tmps.getD 30 undef = x30 at e
        generalize fa.tmps.getD 31 undef = x31 at e
        generalize fa.tmps.getD 32 undef = x32 at e
        generalize fa.tmps.getD 33 undef = x33 at e
        generalize fa.tmps.getD 34 undef = x34 at e
        generalize fa.tmps.getD 35 undef = x35 at e
        generalize fa.tmps.getD 36 undef = x36 at e
        generalize fa.tmps.getD 37 undef = x37 at e
        generalize fa.tmps.getD 38 undef = x38 at e
        generalize fa.tmps.getD 39 undef = x39 at e
        generalize fa.tmps.getD 40 undef = x40 at e
        generalize fa.tmps.getD 41 undef = x41 at e
        generalize fa.tmps.getD 42 undef = x42 at e
        generalize fa.tmps.getD 43 undef = x43 at e
        generalize fa.tmps.getD 44 undef = x44 at e
        generalize fa.tmps.getD 45 undef = x45 at e k45
        simp [List.setIfInBounds_toArray, List.set_cons_succ, List.set_cons_zero] at e
        subst e
        obtain ⟨kS, kK⟩ := k45
        have HF := Lib.hid kS
        have HKF := Lib.hid (HK.out.trans' kK)
        have hsz9 := HK.out.size
        clear kS kK hfB
        go_wp2_with fail
        go_ret
        exact ⟨rfl, HF.out.mono (fun q hq => hq.imp id (fun x => ⟨by omega, x.2⟩)), HKF.out⟩
    · rw [show doP L [a, k, v] = none from by unfold doP; rw [if_neg (fun h => hp h.2), if_neg (fun h => by simp at h)]]
      rw [decide_eq_false hp] at ka
      clear h3 hp
      go_enter Try.func33, Try.ntmps33
      go_wp2_with fail
      refine HC.out.mono ?_
      rintro e w1 ⟨hB, u, rfl, hown⟩
      obtain ⟨_, hq⟩ := parts_cells hown
      obtain ⟨g5, c5, rfl, hg0, hg5, hc5, hm5, hcell⟩ := hq (by simp)
      have hc0 := hcell 0 (by simp)
      simp only [List.getElem_cons_zero] at hc0
      have HB := Lib.hid hB
      simp only [List.length_cons, List.length_nil] at hc5 ⊢
      clear hB hown hcell HC
      go_wp2_with fail
      go_ret
      exact ⟨rfl, (HS.out.below HB.out).mono (fun k hk => .inl hk), Kept.of_below HB.out⟩
  by_cases h2 : P.length = 2
  · obtain ⟨a, k, rfl⟩ : ∃ a k, P = [a, k] := by
      match P, h2 with
      | [a, k], _ => exact ⟨a, k, rfl⟩
    have ka := str_lit a #[103, 111, 110, 101]
    by_cases hp : a = wGone
    · rw [show doP L [a, k] = some (dropL L k) from by unfold doP; rw [if_neg (fun h => by simp at h), if_pos ⟨rfl, hp⟩]; rfl]
      rw [decide_eq_true hp] at ka
      clear h3 h2 hp
      go_enter Try.func33, Try.ntmps33
      go_wp2_with fail
      refine HC.out.mono ?_
      rintro e w1 ⟨hB, u, rfl, hown⟩
      obtain ⟨_, hq⟩ := parts_cells hown
      obtain ⟨g5, c5, rfl, hg0, hg5, hc5, hm5, hcell⟩ := hq (by simp)
      have hc0 := hcell 0 (by simp)
      have hc1 := hcell 1 (by simp)
      simp only [List.getElem_cons_zero, List.getElem_cons_succ] at hc0 hc1
      have HB := Lib.hid hB
      have HD := Lib.hid (drop_any (HS.out.below hB) (by omega) k)
      simp only [List.length_cons, List.length_nil] at hc5 ⊢
      clear hB hown hcell HC HS
      go_wp2_with fail
      refine HD.out.mono ?_
      rintro e w2 ⟨rfl, hS2, hK2⟩
      have HK := Lib.hid ((Kept.of_below HB.out).trans' hK2)
      have HS2 := Lib.hid hS2
      clear hK2 hS2 HD hc0 hc1
      go_wp2_with fail
      go_ret
      exact ⟨rfl, HS2.out.mono (fun k hk => .inl hk), HK.out⟩
    · rw [show doP L [a, k] = none from by unfold doP; rw [if_neg (fun h => by simp at h), if_neg (fun h => hp h.2)]]
      rw [decide_eq_false hp] at ka
      clear h3 h2 hp
      go_enter Try.func33, Try.ntmps33
      go_wp2_with fail
      refine HC.out.mono ?_
      rintro e w1 ⟨hB, u, rfl, hown⟩
      obtain ⟨_, hq⟩ := parts_cells hown
      obtain ⟨g5, c5, rfl, hg0, hg5, hc5, hm5, hcell⟩ := hq (by simp)
      have hc0 := hcell 0 (by simp)
      simp only [List.getElem_cons_zero] at hc0
      have HB := Lib.hid hB
      simp only [List.length_cons, List.length_nil] at hc5 ⊢
      clear hB hown hcell HC
      go_wp2_with fail
      go_ret
      exact ⟨rfl, (HS.out.below HB.out).mono (fun k hk => .inl hk), Kept.of_below HB.out⟩
  rw [show doP L P = none from by unfold doP; rw [if_neg (fun h => h3 h.1), if_neg (fun h => h2 h.1)]]
  have e3 : ((P.length : Int) == 3) = false := beq_eq_false_iff_ne.2 (by omega)
  have e2 : ((P.length : Int) == 2) = false := beq_eq_false_iff_ne.2 (by omega)
  clear h3 h2
  go_enter Try.func33, Try.ntmps33
  go_wp2_with fail
  refine HC.out.mono ?_
  rintro e w1 ⟨hB, u, rfl, hown⟩
  obtain ⟨⟨p5, c5, rfl⟩, _⟩ := parts_cells hown
  have HB := Lib.hid hB
  clear hB hown HC
  go_wp2_with fail
  go_ret
  exact ⟨rfl, (HS.out.below HB.out).mono (fun k hk => .inl hk), Kept.of_below HB.out⟩
end Go.Proofs.Ytbdlmdmbaajcmaa
