/- Walks: a tree's bytes, by the code and by the document; Walks: two trees held against each other; a digest of 32 bytes; Walks: the document's digest. -/
import Derived.Test.YtdhaanaenklleaaGreatDoorXN1
import Derived.Test.YtdhaanaenklleaaGreatDoorKy
import Derived.Test.YtdhaanaenklleaaGreatDoorQ4
import Derived.OwnWalk
import Derived.Deep.Onto
import Derived.Deep.AppendLies
namespace Go.Proofs.YtdhaanaenklleaaGreatDoor
set_option linter.unusedVariables false
set_option linter.unusedSimpArgs false
open Go.ChangeShapes Go.WideShapes Go.ChangeAt Go.RowKit

def idB (d : List UInt8) : ByteArray := ⟨d.toArray⟩
def kindB (t : Bool) : ByteArray := if t then ⟨#[116, 114, 101, 101]⟩ else ⟨#[98, 108, 111, 98]⟩
def partE (e : Ent) : List ByteArray := [kindB e.2.1, e.1, idB e.2.2.1]
def partsE (l : List Ent) : List ByteArray := l.flatMap partE
def treeB (l : List Ent) : ByteArray := S.joinB (partsE l)
theorem partsE_app (a b : List Ent) : partsE (a ++ b) = partsE a ++ partsE b := by simp [partsE]
theorem partsE_one (e : Ent) : partsE [e] = [kindB e.2.1, e.1, idB e.2.2.1] := by simp [partsE, partE]
theorem partsE_len : ∀ l : List Ent, (partsE l).length = 3 * l.length
  | [] => rfl
  | e :: l => by
    have : partsE (e :: l) = partE e ++ partsE l := rfl
    rw [this, List.length_append, partsE_len l, List.length_cons]
    show 3 + _ = _
    omega
theorem partsE_next {l : List Ent} {k : Nat} (h : k < l.length) : partsE (l.take (k + 1)) = partsE (l.take k) ++ [kindB l[k].2.1, l[k].1, idB l[k].2.2.1] := by
  rw [List.take_succ_eq_append_getElem h, partsE_app, partsE_one]
theorem kindB_size (t : Bool) : (kindB t).size = 4 := by cases t <;> rfl
theorem idB_size (d : List UInt8) : (idB d).size = d.length := by simp [idB, ByteArray.size]
theorem total_parts {n : Nat} : ∀ l : List Ent, (∀ x ∈ l, x.1.size ≤ n ∧ x.2.2.1.length = 32) → S.total (partsE l) ≤ l.length * (n + 36)
  | [], _ => Nat.zero_le _
  | e :: l, h => by
    have h1 := h e List.mem_cons_self
    have h2 := total_parts l (fun x hx => h x (List.mem_cons_of_mem _ hx))
    have : partsE (e :: l) = kindB e.2.1 :: e.1 :: idB e.2.2.1 :: partsE l := rfl
    rw [this]
    simp only [S.total, kindB_size, idB_size, List.length_cons, Nat.add_mul]
    omega
theorem S_own_below {w w' : World} {base : Nat} {e : TypeId} {n s : Nat} {v : Value} {xs : List Value} (h : w.ownsRow base e s v n xs) (hB : Below w.heap.size w w') : w'.ownsRow base e s v n xs := by
  refine ⟨h.1, ?_⟩
  rcases h.2 with h | ⟨g, cap, cur, hv, hg, hh, rest⟩
  · exact .inl h
  · exact .inr ⟨g, cap, cur, hv, hg, (hB.block g (lt_of_block hh)).trans hh, rest⟩
structure LoS (w : World) (ss : List ByteArray) (vo : Value) (wr : World) : Prop where
  ow : wr.ownsRow w.heap.size 9 1 vo ss.length (ss.map Value.string)
  bl : Below w.heap.size w wr
theorem LoS.below {w w1 w2 : World} {ss : List ByteArray} {vo : Value} (h : LoS w ss vo w1) (hB : Below w1.heap.size w1 w2) : LoS w ss vo w2 := ⟨S_own_below h.ow hB, h.bl.trans (hB.mono h.bl.size)⟩
theorem LoS.put {w w1 w2 : World} {L M : List ByteArray} {vo v' : Value} (h : LoS w L vo w1) (ho : w2.ownsRow w.heap.size 9 1 v' M.length (M.map Value.string)) (hg : w1.grownBy w2 vo.ownBlock) : LoS w M v' w2 :=
  ⟨ho, h.bl.grown hg h.bl.size (fun j hj => (h.ow.lt j hj).1)⟩
structure OwnS (base : Nat) (v4 : Value) (ss : List ByteArray) (v : Value) (w : World) : Prop where
  e : v = v4
  o : w.ownsRow base 9 1 v4 ss.length (ss.map Value.string)
theorem OwnS.st1 (base : Nat) (v4 : Value) (ss : List ByteArray) : K2.St1 (OwnS base v4 ss) := fun v w1 w2 h hB => ⟨h.e, S_own_below h.o hB⟩
structure RowT (base : Nat) (ss : List ByteArray) (v : Value) (w : World) : Prop where
  own : w.ownsRow base 9 1 v ss.length (ss.map Value.string)
theorem RowT.st1 (base : Nat) (ss : List ByteArray) : K2.St1 (RowT base ss) := fun v w1 w2 h hB => ⟨S_own_below h.own hB⟩
theorem run_append_none_cap' {P : Program} {w : World} (base : Nat) (t ty e : TypeId) (i : TypeInfo) (size c : Nat) (ht : P.underlying t = some (.slice e)) (hi : P.info? e = some i)
    (v : Value) (n : Nat) (xs : List Value) (hown : w.ownsRow base e size v n xs) :
    (Builtin.append_ #[t, t] ty #[v, .slice none 0 c]).run P w = .ok v w := by
  rcases hown.2 with ⟨rfl, rfl⟩ | ⟨g, cap, cur, rfl, _, _, hnc, _⟩
  · simp [Builtin.append_, run_underlying ht, sizeOf, typeInfo, hi, Builtin.lenOf, Builtin.firstCells]
  · simp [Builtin.append_, run_underlying ht, sizeOf, typeInfo, hi, Builtin.lenOf, Builtin.firstCells, hnc, storeCells]
theorem info9 : (Tryz.prog.info? 9).map (fun i => (i.zero, i.size, i.bytes)) = some (some (.string ⟨#[]⟩), 1, 16) := by kernel_rfl
theorem run_append_strs (w : World) (base : Nat) (v : Value) (n : Nat) (xs : List Value) (u : Value) (ss : List ByteArray) (hown : w.ownsRow base 9 1 v n xs) (hu : Strs w u ss) (hb : (n + ss.length) * 16 ≤ 140737488355328) (hbase : base ≤ w.heap.size) :
    ∃ v' w', (Builtin.append_ #[99, 99] 99 #[v, u]).run Tryz.prog w = .ok v' w' ∧ w'.ownsRow base 9 1 v' (n + ss.length) (xs ++ ss.map Value.string) ∧ w.grownBy w' v.ownBlock := by
  obtain ⟨i0, hi, hz0, hz1, hz2⟩ := info_parts info9
  rcases hu with ⟨⟨p, cap, rfl⟩, rfl⟩ | ⟨b, off, cap, rfl, hcap, hmax, hb2, hcell⟩
  · cases p with
    | none => exact ⟨v, w, run_append_none_cap' base 99 99 9 i0 1 cap Tryz.underlying99 hi v n xs hown, by simpa using hown, World.grownBy.refl _ _⟩
    | some ad =>
      obtain ⟨v', w', h1, h2, h3, _⟩ := run_append_own_at (P := Tryz.prog) w base 99 99 9 i0 (.string ⟨#[]⟩) 1 16 Tryz.underlying99 hi hz0 hz1 hz2 rfl (by decide) v n xs hown ad 0 cap [] rfl (fun j u h => by simp at h) (fun u h => by simp at h) (by unfold maxLen; simp at hb; omega) (by simpa using hb) hbase
      exact ⟨v', w', h1, by simpa using h2, h3⟩
  · obtain ⟨v', w', h1, h2, h3, _⟩ := run_append_own_at (P := Tryz.prog) w base 99 99 9 i0 (.string ⟨#[]⟩) 1 16 Tryz.underlying99 hi hz0 hz1 hz2 rfl (by decide) v n xs hown ⟨b, off, none⟩ ss.length cap (ss.map Value.string) (by simp) (fun j y hj => by
      have hjl : j < ss.length := by have := (List.getElem?_eq_some_iff.1 hj).1; simpa using this
      have e : (⟨b, off, none⟩ : Addr).add j = ⟨b, off + j, none⟩ := by unfold Addr.add; split <;> simp_all
      rw [e, hcell j hjl]
      rw [List.getElem?_map, List.getElem?_eq_getElem hjl] at hj
      simpa [List.getD, hjl] using hj) (fun y hy => by obtain ⟨s, _, rfl⟩ := List.mem_map.1 hy; rfl) (by unfold maxLen; omega) hb hbase
    exact ⟨v', w', h1, h2, h3⟩
theorem out_append' {P : Program} {o : Oper} {ρ : Operand → Value} {w w' : World} {v u v' : Value} {φ : Value → World → Prop} (s x : Operand) (t : TypeId) (ho : o.op = .call { callee := .builtin .append, args := #[s, x], argTypes := #[t, t] })
    (hs : ρ s = v) (hx : ρ x = u) (hr : (Builtin.append_ #[t, t] o.type #[v, u]).run P w = .ok v' w') (hφ : φ v' w') : K2.Out P o ρ w φ := by
  refine K2.out_run (v := v') (w' := w') ?_ hφ
  unfold execOp
  simp only [ho, resolve, invoke, builtin, Sem.run_bind, Sem.run_pure, Result.andThen_ok, List.map_toArray, List.map_cons, List.map_nil, hs, hx, hr]
theorem strs_block {w : World} {B : Nat} {ss : List ByteArray} (hm : ss.length ≤ maxLen) (h : w.heap[B]? = some (.cells (ss.map Value.string).toArray 9 (0, 0))) : Strs w (.slice (some ⟨B, 0, none⟩) ss.length ss.length) ss := by
  by_cases h0 : ss = []
  · subst h0; exact .inl ⟨⟨_, _, rfl⟩, rfl⟩
  · refine .inr ⟨B, 0, ss.length, rfl, Nat.le_refl _, hm, lt_of_block h, fun i hi => ?_⟩
    rw [block_cell h]
    simp [List.getD, hi]
theorem slice_id (w : World) (B : Nat) : (Instr.sliceAt 32 (.pointer (some ⟨B, 2, none⟩)) none none none).run Tryz.prog w = .ok (.slice (some ⟨B, 2, none⟩) 32 32) w := by
  have he : Tryz.prog.arrayLen 32 = 32 := by kernel_rfl
  have hE : Tryz.prog.elem 32 = 5 := by kernel_rfl
  have hz : (sizeOf 5).run Tryz.prog w = .ok 1 w := by simp [go_sem]
  rw [run_sliceAt_array_all w 32 ⟨B, 2, none⟩ (by rw [he, hE]; exact Tryz.underlying32), hE, hz, he]
  simp [go_sem, Addr.add]
structure BoxR (B : Nat) (row : List Value) (x : World) : Prop where
  lt : B < x.heap.size
  r : ∀ j y, row[j]? = some y → x.cell? ⟨B, j, none⟩ = some y
theorem BoxL.toR {w x : World} {B : Nat} {row : List Value} (h : BoxL w B row x) : BoxR B row x := ⟨h.lt, h.r⟩
theorem BoxR.below {x y : World} {B : Nat} {row : List Value} (h : BoxR B row x) (hB : Below x.heap.size x y) : BoxR B row y := ⟨Nat.lt_of_lt_of_le h.lt hB.size, fun j q hq => (hB.cell (p := ⟨B, j, none⟩) h.lt).trans (h.r j q hq)⟩
theorem BoxR.grown {x y : World} {B : Nat} {row : List Value} {rw_ : Option Nat} (h : BoxR B row x) (hg : x.grownBy y rw_) (hne : some B ≠ rw_) : BoxR B row y := ⟨Nat.lt_of_lt_of_le h.lt hg.size, fun j q hq => (hg.cell_far ⟨B, j, none⟩ h.lt hne).trans (h.r j q hq)⟩
theorem conv_id {x : World} {B : Nat} {z : ByteArray} {td : Bool} {dv : List UInt8} (h : BoxR B (entV (z, td, dv, ())) x) (hl : dv.length = 32) : (convert 56 9 (.slice (some ⟨B, 2, none⟩) 32 32)).run Tryz.prog x = .ok (.string (idB dv)) x := by
  have := run_convert_bytes_back (P := Tryz.prog) x 56 9 5 ⟨B, 2, none⟩ 32 dv Tryz.underlying56 Tryz.underlying5 Tryz.underlying9 (fun j hj => by
    have e : (⟨B, 2, none⟩ : Addr).add j = ⟨B, j + 2, none⟩ := by unfold Addr.add; split <;> simp_all; omega
    rw [e]
    exact h.r (j + 2) _ (by simp [entV, bytV, hj]))
  rw [hl] at this
  exact this
theorem box_abs {c : Code} {Q : Exit → Act → World → Prop} {a : Act} {wr w' : World} {B : Nat} {row : List Value} (hb : BoxL wr B row w') (h : ∀ w2, BoxL wr B row w2 → c.wp Tryz.prog Q a w2) : c.wp Tryz.prog Q a w' := h _ hb
def putR (a : List Ent) : Value := .tuple #[.string (if goodT a = true then treeB a else ⟨#[]⟩), .int .i64 (if goodT a = true then 0 else 1)]

set_option maxRecDepth 100000 in
set_option maxHeartbeats 4000000 in
theorem putTree_any (v : Value) (a : List Ent) (w : World) (hM : MaxAt w) (hv : Rows w 34 entR v a) (hz : ∀ x ∈ a, x.1.size ≤ 65536) (hn : a.length ≤ 65536) :
    Calls Tryz.prog 46 #[v] w fun e w' => e = .returned (putR a) ∧ Below w.heap.size w w' := by
  obtain ⟨i0, hi, hz0, hz1, hz2⟩ := info_parts info9
  have HG := Lib.hid (fun w1 (h1 : Below w.heap.size w w1) => goodTree_any v a w1 (hM.below h1) (hv.below h1) (fun x hx => by have := hz x hx; omega) (by omega))
  cases hg : goodT a with
  | false =>
    have Hfin := Lib.hid (show putR a = .tuple #[.string ⟨#[]⟩, .int .i64 1] by unfold putR; rw [hg]; rfl)
    rw [hg] at HG
    clear hM hv hz hn hg
    go_enter Tryz.func46, Tryz.ntmps46
    go_wp2_with fail
    refine (HG.out _ (Below.refl _ _)).mono ?_
    rintro e w1 ⟨rfl, hB1⟩
    go_wp2_with fail
    go_ret2
    exact ⟨by rw [Hfin.out]; rfl, hB1⟩
  | true =>
    have Hfin := Lib.hid (show putR a = .tuple #[.string (S.joinB (partsE a)), .int .i64 0] by unfold putR; rw [hg]; rfl)
    rw [hg] at HG
    have h32 : ∀ x ∈ a, x.2.2.1.length = 32 := fun x hx => by
      obtain ⟨k, hk, rfl⟩ := List.getElem_of_mem hx
      obtain ⟨p, cap, rfl, hp⟩ := hv.elem rfl
      obtain ⟨g1, o1, rfl, hg1, hcap1, hmax1, hcell1⟩ := hp (by omega)
      obtain ⟨ecs, he, -, -⟩ := hcell1 k hk
      exact (ent_cells he).2.2
    have Htot := Lib.hid (show S.total (partsE a) ≤ 1099511627776 by
      have := total_parts (n := 65536) a (fun x hx => ⟨hz x hx, h32 x hx⟩)
      have h2 : a.length * (65536 + 36) ≤ 65536 * (65536 + 36) := Nat.mul_le_mul_right _ hn
      omega)
    obtain ⟨len, hl⟩ : ∃ len, len = a.length := ⟨_, rfl⟩
    obtain ⟨p, cap, rfl, hp⟩ := hv.elem hl
    have Hp := Lib.hid hp
    have hnl : len ≤ 65536 := by omega
    have Ha := Lib.hid hl
    clear hv hp hl hz hn hg hM h32
    go_enter Tryz.func46, Tryz.ntmps46
    go_wp2_with fail
    refine (HG.out _ (Below.refl _ _)).mono ?_
    rintro e w1 ⟨rfl, hB1⟩
    have HB1 := Lib.hid hB1
    clear hB1
    go_wp2_with (at_make; refine wpList_make_own _ rfl _ _ 99 rfl w.heap.size 9 i0 (.string ⟨#[]⟩) 1 Tryz.underlying99 hi hz0 hz1 .i64 .i64 _ (3 * len) rfl rfl (by omega) (by rw [hz2]; omega) (by unfold maxLen; omega) HB1.out.size ?_; intro w3 hown3 hgrow3; have HL3 := Lib.hid (show LoS w [] _ w3 from ⟨hown3, HB1.out.grown hgrow3 HB1.out.size (fun k h => by cases h)⟩); clear hown3 hgrow3)
    go_loopg [4, 17] len (fun g vo iv wr => ∃ k : Nat, k + g = len ∧ iv = .int .i64 k ∧ LoS w (partsE (a.take k)) vo wr)
    case atStart => exact ⟨0, by omega, rfl, HL3.out⟩
    case round =>
      obtain ⟨k, hkg, rfl, hLo⟩ := hrel
      have HLo := Lib.hid hLo
      clear hLo HL3
      by_cases hlt : k < len
      · have hltI : (k : Int) < (len : Int) := by omega
        have hka : k < a.length := by have := Ha.out; omega
        have hnx := partsE_next hka
        have hll : (partsE (a.take k)).length ≤ 196608 := by rw [partsE_len, List.length_take]; omega
        obtain ⟨g1, o1, rfl, hg1, hcap1, hmax1, hcell1⟩ := Hp.out (by omega)
        obtain ⟨ecs, he, hl34, hat⟩ := hcell1 k hka
        obtain ⟨f, hf⟩ : ∃ f, f = a[k] := ⟨_, rfl⟩
        rw [← hf] at he
        obtain ⟨rfl, hsz, h32⟩ := ent_cells he
        have Hf := Lib.hid hf
        obtain ⟨z, td, dv, ⟨⟩⟩ := f
        simp only at hsz h32
        have Hrg := Lib.hid (range_below hg1 hat HLo.out.bl)
        have hbox := fun old => box_at wr old 58 (entV (z, td, dv, ())) (j := 0) (y := .string z) rfl
        have hbox1 := fun old => box_at wr old 58 (entV (z, td, dv, ())) (j := 1) (y := .bool td) rfl
        have Hone := Lib.hid (one_row (entV_one (z, td, dv, ())))
        have hi0 : (Tryz.prog.info? 58).map (·.size) = some 34 := by kernel_rfl
        have Hi1 := Lib.hid (show (Tryz.prog.info? 58).map (·.size) = some (entV (z, td, dv, ())).length by rw [hi0, hl34])
        have Hi2 := Lib.hid (show (Tryz.prog.info? 58).map (·.size) = some ((entV (z, td, dv, ())).toArray).size by rw [hi0, List.size_toArray, hl34])
        have Hsz := Lib.hid (show 34 = ((entV (z, td, dv, ())).toArray).size by rw [List.size_toArray, hl34])
        have Hbx := Lib.hid (fun old => boxL_made wr old 58 (entV (z, td, dv, ())))
        have H32 := Lib.hid h32
        clear he hat hcell1 hi0 h32 hl34 hf
        rw [← Hf.out] at hnx
        simp only at hnx
        have Hnx := Lib.hid hnx
        clear hnx
        generalize partsE (a.take k) = ss at *
        cases td with
        | true =>
          go_wp2_with (first | (refine wpList_load_mid rfl 58 (.tmp 19) rfl g1 (o1 + k * 34) rfl (entV (z, true, dv, ())) _ Hrg.out Tryz.underlying58 rfl Hi1.out ?_) | (refine wpList_store_rowTo rfl 58 (.tmp 6) (.tmp 20) rfl rfl wr.heap.size (entV (z, true, dv, ())).toArray rfl rfl 58 _ (heap_alloc_new wr _) Hi2.out (by rw [← Hsz.out]; rfl) Hone.out ?_))
          refine box_abs (Hbx.out _) ?_
          intro w2 hbx
          have HBx := Lib.hid hbx
          have HLo2 := Lib.hid (HLo.out.below hbx.b)
          clear hbx hbox hbox1 Hrg Hone Hi1 Hi2 Hsz Hbx
          have hd2 : Below w2.heap.size w2 w2.drew := (Below.refl _ _).drew
          have hbd := HBx.out.toR.below hd2
          have hRL : ∃ Rs : List (Value → World → Prop), Rs = [OwnS w.heap.size (u4) (ss),
              K2.PureV (.string (kindB true)),
              K2.PureV (.pointer (some ⟨wr.heap.size, 0, none⟩)),
              K2.PureV (.string z),
              K2.PureV (.pointer (some ⟨wr.heap.size, 2, none⟩)),
              K2.PureV (.slice (some ⟨wr.heap.size, 2, none⟩) 32 32),
              K2.PureV (.string (idB dv)),
              K2.NewB 3 #[.string (kindB true), .string (z), .string (idB dv)] 9,
              RowT w.heap.size (ss ++ [kindB true, z, idB dv]),
              RowT w.heap.size (ss ++ [kindB true, z, idB dv])] := ⟨_, rfl⟩
          obtain ⟨Rs, hRs⟩ := hRL
          refine K2.wp_region_rel2 w.heap.size HLo2.out.bl.size (K2.RL Rs) [1, 2, 2, 2, 2, 2, 2, 1, 1, 1] [1, 1, 1, 1, 1, 1, 1, 1, 2, 1] [[], [], [], [], [], [], [], [], [0, 7], []] (by kernel_rfl) (by kernel_rfl) (K2.RL.st1 (by rw [hRs]; exact K2.st1_cons (OwnS.st1 _ _ _) (K2.st1_cons (K2.PureV.st1 _) (K2.st1_cons (K2.PureV.st1 _) (K2.st1_cons (K2.PureV.st1 _) (K2.st1_cons (K2.PureV.st1 _) (K2.st1_cons (K2.PureV.st1 _) (K2.st1_cons (K2.PureV.st1 _) (K2.st1_cons (K2.NewB.st1 _ _ _) (K2.st1_cons (RowT.st1 _ _) (K2.st1_cons (RowT.st1 _ _) (K2.st1_nil)))))))))))) (K2.RL.st2 (by rw [hRs]; exact K2.st2_skip (K2.st2_cons (K2.PureV.st2 _ _ _) (K2.st2_cons (K2.PureV.st2 _ _ _) (K2.st2_cons (K2.PureV.st2 _ _ _) (K2.st2_cons (K2.PureV.st2 _ _ _) (K2.st2_cons (K2.PureV.st2 _ _ _) (K2.st2_cons (K2.PureV.st2 _ _ _) (K2.st2_skip (K2.st2_skip (K2.st2_skip (K2.st2_nil)))))))))))) ?_ ?_ ?_
          · intro i o d hi hd
            have hmem := List.mem_of_getElem? hi
            simp only [List.mem_cons, List.not_mem_nil, or_false] at hmem
            rcases hmem with rfl | rfl | rfl | rfl | rfl | rfl | rfl | rfl | rfl | rfl <;> simp at hd <;> (subst hd; simp)
          · refine K2.rel_start (Φ := K2.Hop _ _ _ _ _ _ _) ?_
            refine K2.rel_cons (Φ := K2.Hop _ _ _ _ _ _ _) (k := 0) ?_ ?_
            · intro fa fw hfB hfN hfE hfk hft
              have hE : Below w2.drew.heap.size w2.drew fw := hfE (by kernel_rfl)
              have k4 : fa.eval (.tmp 4) = u4 := hft 4 (K2.mem_looks (by kernel_rfl)) (K2.noneed (by kernel_rfl))
              rw [hRs]
              refine K2.hop_plain rfl ?_
              refine K2.out_move rfl ?_
              exact ⟨⟨k4, S_own_below HLo2.out.ow (hd2.trans (hE.mono hd2.size))⟩, Below.refl _ _⟩
            refine K2.rel_cons (Φ := K2.Hop _ _ _ _ _ _ _) (k := 1) ?_ ?_
            · intro fa fw hfB hfN hfE hfk hft
              have k7 : fa.eval (.tmp 7) = .string (kindB true) := hft 7 (K2.mem_looks (by kernel_rfl)) (K2.noneed (by kernel_rfl))
              rw [hRs]
              refine K2.hop_plain rfl ?_
              refine K2.out_move rfl ?_
              exact ⟨k7, Below.refl _ _⟩
            refine K2.rel_cons (Φ := K2.Hop _ _ _ _ _ _ _) (k := 2) ?_ ?_
            · intro fa fw hfB hfN hfE hfk hft
              have k6 : fa.eval (.tmp 6) = .pointer (some ⟨wr.heap.size, 0, none⟩) := hft 6 (K2.mem_looks (by kernel_rfl)) (K2.noneed (by kernel_rfl))
              rw [hRs]
              refine K2.hop_plain rfl ?_
              generalize fa.eval = ρ at *
              exact K2.out_run (v := .pointer (some ⟨wr.heap.size, 0, none⟩)) (w' := fw) (by simp [execOp, k6, go_sem]) ⟨rfl, Below.refl _ _⟩
            refine K2.rel_cons (Φ := K2.Hop _ _ _ _ _ _ _) (k := 3) ?_ ?_
            · intro fa fw hfB hfN hfE hfk hft
              have hE : Below w2.drew.heap.size w2.drew fw := hfE (by kernel_rfl)
              have k25 : fa.eval (.tmp 25) = (.pointer (some ⟨wr.heap.size, 0, none⟩)) := by have := hfk 2 (K2.mem_needs (by kernel_rfl)) _ rfl; rw [hRs] at this; exact this
              rw [hRs]
              refine K2.hop_plain rfl ?_
              have h := (hbd.below hE).r 0 (.string z) rfl
              generalize fa.eval = ρ at *
              exact K2.out_run (v := .string z) (w' := fw) (by simp [execOp, k25, h, go_sem]) ⟨rfl, Below.refl _ _⟩
            refine K2.rel_cons (Φ := K2.Hop _ _ _ _ _ _ _) (k := 4) ?_ ?_
            · intro fa fw hfB hfN hfE hfk hft
              have k6 : fa.eval (.tmp 6) = .pointer (some ⟨wr.heap.size, 0, none⟩) := hft 6 (K2.mem_looks (by kernel_rfl)) (K2.noneed (by kernel_rfl))
              rw [hRs]
              refine K2.hop_plain rfl ?_
              generalize fa.eval = ρ at *
              exact K2.out_run (v := .pointer (some ⟨wr.heap.size, 2, none⟩)) (w' := fw) (by simp [execOp, k6, go_sem]) ⟨rfl, Below.refl _ _⟩
            refine K2.rel_cons (Φ := K2.Hop _ _ _ _ _ _ _) (k := 5) ?_ ?_
            · intro fa fw hfB hfN hfE hfk hft
              have k27 : fa.eval (.tmp 27) = (.pointer (some ⟨wr.heap.size, 2, none⟩)) := by have := hfk 4 (K2.mem_needs (by kernel_rfl)) _ rfl; rw [hRs] at this; exact this
              rw [hRs]
              refine K2.hop_plain rfl ?_
              generalize fa.eval = ρ at *
              exact K2.out_run (v := .slice (some ⟨wr.heap.size, 2, none⟩) 32 32) (w' := fw) (by simp [execOp, k27, slice_id, go_sem]) ⟨rfl, Below.refl _ _⟩
            refine K2.rel_cons (Φ := K2.Hop _ _ _ _ _ _ _) (k := 6) ?_ ?_
            · intro fa fw hfB hfN hfE hfk hft
              have hE : Below w2.drew.heap.size w2.drew fw := hfE (by kernel_rfl)
              have k28 : fa.eval (.tmp 28) = (.slice (some ⟨wr.heap.size, 2, none⟩) 32 32) := by have := hfk 5 (K2.mem_needs (by kernel_rfl)) _ rfl; rw [hRs] at this; exact this
              rw [hRs]
              refine K2.hop_plain rfl ?_
              have h := conv_id (td := true) (hbd.below hE) H32.out
              generalize fa.eval = ρ at *
              exact K2.out_run (v := .string (idB dv)) (w' := fw) (by unfold execOp; simp only [Sem.run_bind, k28, h, Result.andThen_ok, Sem.run_pure]) ⟨rfl, Below.refl _ _⟩
            refine K2.rel_cons (Φ := K2.Hop _ _ _ _ _ _ _) (k := 7) ?_ ?_
            · intro fa fw hfB hfN hfE hfk hft
              have k24 : fa.eval (.tmp 24) = (.string (kindB true)) := by have := hfk 1 (K2.mem_needs (by kernel_rfl)) _ rfl; rw [hRs] at this; exact this
              have k26 : fa.eval (.tmp 26) = (.string z) := by have := hfk 3 (K2.mem_needs (by kernel_rfl)) _ rfl; rw [hRs] at this; exact this
              have k29 : fa.eval (.tmp 29) = (.string (idB dv)) := by have := hfk 6 (K2.mem_needs (by kernel_rfl)) _ rfl; rw [hRs] at this; exact this
              rw [hRs]
              refine K2.hop_plain rfl ?_
              have kc : ∀ v, fa.eval (.const v) = v := fun _ => rfl
              generalize fa.eval = ρ at *
              exact K2.out_run (v := .slice (some ⟨fw.heap.size, 0, none⟩) 3 3) (w' := fw.alloc (.cells #[.string (kindB true), .string (z), .string (idB dv)] 9)) (by simp [execOp, kc, k24, k26, k29, go_sem]) ⟨⟨_, rfl, heap_alloc_new _ _⟩, (Below.refl _ _).alloc (Nat.le_refl _) _⟩
            refine K2.rel_cons (Φ := K2.Hop _ _ _ _ _ _ _) (k := 8) ?_ ?_
            · intro fa fw hfB hfN hfE hfk hft
              have k23 : (OwnS w.heap.size (u4) (ss)) (fa.eval (.tmp 23)) fw := by have := hfk 0 (K2.mem_needs (by kernel_rfl)) _ rfl; rw [hRs] at this; exact this
              have k30 : (K2.NewB 3 #[.string (kindB true), .string (z), .string (idB dv)] 9) (fa.eval (.tmp 30)) fw := by have := hfk 7 (K2.mem_needs (by kernel_rfl)) _ rfl; rw [hRs] at this; exact this
              rw [hRs]
              refine K2.hop_plain rfl ?_
              obtain ⟨hv0, ho0⟩ := k23
              obtain ⟨B1, hb1, hb2⟩ := k30
              obtain ⟨v', w', hr, ho, hg⟩ := run_append_strs fw w.heap.size _ _ _ _ [kindB true, z, idB dv] ho0 (strs_block (ss := [kindB true, z, idB dv]) (by unfold maxLen; simp) hb2) (by simp only [List.length_append, List.length_cons, List.length_nil]; omega) hfN
              refine out_append' (.tmp 23) (.tmp 30) 99 rfl hv0 hb1 hr ⟨(show RowT w.heap.size (ss ++ [kindB true, z, idB dv]) v' w' from ⟨by rw [List.length_append, List.map_append]; exact ho⟩), ?_⟩
              exact (Below.refl _ _).grown hg hfN (fun k hk => (ho0.lt k hk).1)
            refine K2.rel_cons (Φ := K2.Hop _ _ _ _ _ _ _) (k := 9) ?_ ?_
            · intro fa fw hfB hfN hfE hfk hft
              have k31 : (RowT w.heap.size (ss ++ [kindB true, z, idB dv])) (fa.eval (.tmp 31)) fw := by have := hfk 8 (K2.mem_needs (by kernel_rfl)) _ rfl; rw [hRs] at this; exact this
              rw [hRs]
              refine K2.hop_plain rfl ?_
              refine K2.out_assign rfl ?_
              exact ⟨k31, Below.refl _ _⟩
            exact K2.rel_nil
          · intro fa fw hfB hfy hff hfs hfd
            rw [hRs] at hfy
            have k4 : (RowT w.heap.size (ss ++ [kindB true, z, idB dv])) (fa.eval (.tmp 4)) fw := hfy 9 _ rfl (K2.unkilled (by decide))
            replace k4 : RowT w.heap.size (ss ++ [kindB true, z, idB dv]) (fa.tmps.getD 4 undef) fw := k4
            have HBf := Lib.hid (show Below w.heap.size w fw from HLo2.out.bl.drew.trans hfB)
            have e := K2.rel_frame [23, 24, 25, 26, 27, 28, 29, 30, 31, 4] (by kernel_rfl) hff hfs hfd
            simp only [List.foldl] at e
            clear hfy hff hfs hfd 
            generalize fa.tmps.getD 23 undef = x23 at e
            generalize fa.tmps.getD 24 undef = x24 at e
            generalize fa.tmps.getD 25 undef = x25 at e
            generalize fa.tmps.getD 26 undef = x26 at e
            generalize fa.tmps.getD 27 undef = x27 at e
            generalize fa.tmps.getD 28 undef = x28 at e
            generalize fa.tmps.getD 29 undef = x29 at e
            generalize fa.tmps.getD 30 undef = x30 at e
            generalize fa.tmps.getD 31 undef = x31 at e
            generalize fa.tmps.getD 4 undef = x4 at e k4
            simp [List.setIfInBounds_toArray, List.set_cons_succ, List.set_cons_zero] at e
            subst e
            have HLn := Lib.hid (show LoS w _ x4 fw from ⟨k4.own, HBf.out⟩)
            clear k4
            go_wp2_with fail
            go_roundg (gk - 1)
            case measure => omega
            case rel => exact ⟨k + 1, by omega, by go_num, by rw [Hnx.out]; exact HLn.out⟩
        | false =>
          go_wp2_with (first | (refine wpList_load_mid rfl 58 (.tmp 19) rfl g1 (o1 + k * 34) rfl (entV (z, false, dv, ())) _ Hrg.out Tryz.underlying58 rfl Hi1.out ?_) | (refine wpList_store_rowTo rfl 58 (.tmp 6) (.tmp 20) rfl rfl wr.heap.size (entV (z, false, dv, ())).toArray rfl rfl 58 _ (heap_alloc_new wr _) Hi2.out (by rw [← Hsz.out]; rfl) Hone.out ?_))
          refine box_abs (Hbx.out _) ?_
          intro w2 hbx
          have HBx := Lib.hid hbx
          have HLo2 := Lib.hid (HLo.out.below hbx.b)
          clear hbx hbox hbox1 Hrg Hone Hi1 Hi2 Hsz Hbx
          have hd2 : Below w2.heap.size w2 w2.drew := (Below.refl _ _).drew
          have hbd := HBx.out.toR.below hd2
          have hRL : ∃ Rs : List (Value → World → Prop), Rs = [OwnS w.heap.size (u4) (ss),
              K2.PureV (.string (kindB false)),
              K2.PureV (.pointer (some ⟨wr.heap.size, 0, none⟩)),
              K2.PureV (.string z),
              K2.PureV (.pointer (some ⟨wr.heap.size, 2, none⟩)),
              K2.PureV (.slice (some ⟨wr.heap.size, 2, none⟩) 32 32),
              K2.PureV (.string (idB dv)),
              K2.NewB 3 #[.string (kindB false), .string (z), .string (idB dv)] 9,
              RowT w.heap.size (ss ++ [kindB false, z, idB dv]),
              RowT w.heap.size (ss ++ [kindB false, z, idB dv])] := ⟨_, rfl⟩
          obtain ⟨Rs, hRs⟩ := hRL
          refine K2.wp_region_rel2 w.heap.size HLo2.out.bl.size (K2.RL Rs) [1, 2, 2, 2, 2, 2, 2, 1, 1, 1] [1, 1, 1, 1, 1, 1, 1, 1, 2, 1] [[], [], [], [], [], [], [], [], [0, 7], []] (by kernel_rfl) (by kernel_rfl) (K2.RL.st1 (by rw [hRs]; exact K2.st1_cons (OwnS.st1 _ _ _) (K2.st1_cons (K2.PureV.st1 _) (K2.st1_cons (K2.PureV.st1 _) (K2.st1_cons (K2.PureV.st1 _) (K2.st1_cons (K2.PureV.st1 _) (K2.st1_cons (K2.PureV.st1 _) (K2.st1_cons (K2.PureV.st1 _) (K2.st1_cons (K2.NewB.st1 _ _ _) (K2.st1_cons (RowT.st1 _ _) (K2.st1_cons (RowT.st1 _ _) (K2.st1_nil)))))))))))) (K2.RL.st2 (by rw [hRs]; exact K2.st2_skip (K2.st2_cons (K2.PureV.st2 _ _ _) (K2.st2_cons (K2.PureV.st2 _ _ _) (K2.st2_cons (K2.PureV.st2 _ _ _) (K2.st2_cons (K2.PureV.st2 _ _ _) (K2.st2_cons (K2.PureV.st2 _ _ _) (K2.st2_cons (K2.PureV.st2 _ _ _) (K2.st2_skip (K2.st2_skip (K2.st2_skip (K2.st2_nil)))))))))))) ?_ ?_ ?_
          · intro i o d hi hd
            have hmem := List.mem_of_getElem? hi
            simp only [List.mem_cons, List.not_mem_nil, or_false] at hmem
            rcases hmem with rfl | rfl | rfl | rfl | rfl | rfl | rfl | rfl | rfl | rfl <;> simp at hd <;> (subst hd; simp)
          · refine K2.rel_start (Φ := K2.Hop _ _ _ _ _ _ _) ?_
            refine K2.rel_cons (Φ := K2.Hop _ _ _ _ _ _ _) (k := 0) ?_ ?_
            · intro fa fw hfB hfN hfE hfk hft
              have hE : Below w2.drew.heap.size w2.drew fw := hfE (by kernel_rfl)
              have k4 : fa.eval (.tmp 4) = u4 := hft 4 (K2.mem_looks (by kernel_rfl)) (K2.noneed (by kernel_rfl))
              rw [hRs]
              refine K2.hop_plain rfl ?_
              refine K2.out_move rfl ?_
              exact ⟨⟨k4, S_own_below HLo2.out.ow (hd2.trans (hE.mono hd2.size))⟩, Below.refl _ _⟩
            refine K2.rel_cons (Φ := K2.Hop _ _ _ _ _ _ _) (k := 1) ?_ ?_
            · intro fa fw hfB hfN hfE hfk hft
              have k7 : fa.eval (.tmp 7) = .string (kindB false) := hft 7 (K2.mem_looks (by kernel_rfl)) (K2.noneed (by kernel_rfl))
              rw [hRs]
              refine K2.hop_plain rfl ?_
              refine K2.out_move rfl ?_
              exact ⟨k7, Below.refl _ _⟩
            refine K2.rel_cons (Φ := K2.Hop _ _ _ _ _ _ _) (k := 2) ?_ ?_
            · intro fa fw hfB hfN hfE hfk hft
              have k6 : fa.eval (.tmp 6) = .pointer (some ⟨wr.heap.size, 0, none⟩) := hft 6 (K2.mem_looks (by kernel_rfl)) (K2.noneed (by kernel_rfl))
              rw [hRs]
              refine K2.hop_plain rfl ?_
              generalize fa.eval = ρ at *
              exact K2.out_run (v := .pointer (some ⟨wr.heap.size, 0, none⟩)) (w' := fw) (by simp [execOp, k6, go_sem]) ⟨rfl, Below.refl _ _⟩
            refine K2.rel_cons (Φ := K2.Hop _ _ _ _ _ _ _) (k := 3) ?_ ?_
            · intro fa fw hfB hfN hfE hfk hft
              have hE : Below w2.drew.heap.size w2.drew fw := hfE (by kernel_rfl)
              have k25 : fa.eval (.tmp 25) = (.pointer (some ⟨wr.heap.size, 0, none⟩)) := by have := hfk 2 (K2.mem_needs (by kernel_rfl)) _ rfl; rw [hRs] at this; exact this
              rw [hRs]
              refine K2.hop_plain rfl ?_
              have h := (hbd.below hE).r 0 (.string z) rfl
              generalize fa.eval = ρ at *
              exact K2.out_run (v := .string z) (w' := fw) (by simp [execOp, k25, h, go_sem]) ⟨rfl, Below.refl _ _⟩
            refine K2.rel_cons (Φ := K2.Hop _ _ _ _ _ _ _) (k := 4) ?_ ?_
            · intro fa fw hfB hfN hfE hfk hft
              have k6 : fa.eval (.tmp 6) = .pointer (some ⟨wr.heap.size, 0, none⟩) := hft 6 (K2.mem_looks (by kernel_rfl)) (K2.noneed (by kernel_rfl))
              rw [hRs]
              refine K2.hop_plain rfl ?_
              generalize fa.eval = ρ at *
              exact K2.out_run (v := .pointer (some ⟨wr.heap.size, 2, none⟩)) (w' := fw) (by simp [execOp, k6, go_sem]) ⟨rfl, Below.refl _ _⟩
            refine K2.rel_cons (Φ := K2.Hop _ _ _ _ _ _ _) (k := 5) ?_ ?_
            · intro fa fw hfB hfN hfE hfk hft
              have k27 : fa.eval (.tmp 27) = (.pointer (some ⟨wr.heap.size, 2, none⟩)) := by have := hfk 4 (K2.mem_needs (by kernel_rfl)) _ rfl; rw [hRs] at this; exact this
              rw [hRs]
              refine K2.hop_plain rfl ?_
              generalize fa.eval = ρ at *
              exact K2.out_run (v := .slice (some ⟨wr.heap.size, 2, none⟩) 32 32) (w' := fw) (by simp [execOp, k27, slice_id, go_sem]) ⟨rfl, Below.refl _ _⟩
            refine K2.rel_cons (Φ := K2.Hop _ _ _ _ _ _ _) (k := 6) ?_ ?_
            · intro fa fw hfB hfN hfE hfk hft
              have hE : Below w2.drew.heap.size w2.drew fw := hfE (by kernel_rfl)
              have k28 : fa.eval (.tmp 28) = (.slice (some ⟨wr.heap.size, 2, none⟩) 32 32) := by have := hfk 5 (K2.mem_needs (by kernel_rfl)) _ rfl; rw [hRs] at this; exact this
              rw [hRs]
              refine K2.hop_plain rfl ?_
              have h := conv_id (td := false) (hbd.below hE) H32.out
              generalize fa.eval = ρ at *
              exact K2.out_run (v := .string (idB dv)) (w' := fw) (by unfold execOp; simp only [Sem.run_bind, k28, h, Result.andThen_ok, Sem.run_pure]) ⟨rfl, Below.refl _ _⟩
            refine K2.rel_cons (Φ := K2.Hop _ _ _ _ _ _ _) (k := 7) ?_ ?_
            · intro fa fw hfB hfN hfE hfk hft
              have k24 : fa.eval (.tmp 24) = (.string (kindB false)) := by have := hfk 1 (K2.mem_needs (by kernel_rfl)) _ rfl; rw [hRs] at this; exact this
              have k26 : fa.eval (.tmp 26) = (.string z) := by have := hfk 3 (K2.mem_needs (by kernel_rfl)) _ rfl; rw [hRs] at this; exact this
              have k29 : fa.eval (.tmp 29) = (.string (idB dv)) := by have := hfk 6 (K2.mem_needs (by kernel_rfl)) _ rfl; rw [hRs] at this; exact this
              rw [hRs]
              refine K2.hop_plain rfl ?_
              have kc : ∀ v, fa.eval (.const v) = v := fun _ => rfl
              generalize fa.eval = ρ at *
              exact K2.out_run (v := .slice (some ⟨fw.heap.size, 0, none⟩) 3 3) (w' := fw.alloc (.cells #[.string (kindB false), .string (z), .string (idB dv)] 9)) (by simp [execOp, kc, k24, k26, k29, go_sem]) ⟨⟨_, rfl, heap_alloc_new _ _⟩, (Below.refl _ _).alloc (Nat.le_refl _) _⟩
            refine K2.rel_cons (Φ := K2.Hop _ _ _ _ _ _ _) (k := 8) ?_ ?_
            · intro fa fw hfB hfN hfE hfk hft
              have k23 : (OwnS w.heap.size (u4) (ss)) (fa.eval (.tmp 23)) fw := by have := hfk 0 (K2.mem_needs (by kernel_rfl)) _ rfl; rw [hRs] at this; exact this
              have k30 : (K2.NewB 3 #[.string (kindB false), .string (z), .string (idB dv)] 9) (fa.eval (.tmp 30)) fw := by have := hfk 7 (K2.mem_needs (by kernel_rfl)) _ rfl; rw [hRs] at this; exact this
              rw [hRs]
              refine K2.hop_plain rfl ?_
              obtain ⟨hv0, ho0⟩ := k23
              obtain ⟨B1, hb1, hb2⟩ := k30
              obtain ⟨v', w', hr, ho, hg⟩ := run_append_strs fw w.heap.size _ _ _ _ [kindB false, z, idB dv] ho0 (strs_block (ss := [kindB false, z, idB dv]) (by unfold maxLen; simp) hb2) (by simp only [List.length_append, List.length_cons, List.length_nil]; omega) hfN
              refine out_append' (.tmp 23) (.tmp 30) 99 rfl hv0 hb1 hr ⟨(show RowT w.heap.size (ss ++ [kindB false, z, idB dv]) v' w' from ⟨by rw [List.length_append, List.map_append]; exact ho⟩), ?_⟩
              exact (Below.refl _ _).grown hg hfN (fun k hk => (ho0.lt k hk).1)
            refine K2.rel_cons (Φ := K2.Hop _ _ _ _ _ _ _) (k := 9) ?_ ?_
            · intro fa fw hfB hfN hfE hfk hft
              have k31 : (RowT w.heap.size (ss ++ [kindB false, z, idB dv])) (fa.eval (.tmp 31)) fw := by have := hfk 8 (K2.mem_needs (by kernel_rfl)) _ rfl; rw [hRs] at this; exact this
              rw [hRs]
              refine K2.hop_plain rfl ?_
              refine K2.out_assign rfl ?_
              exact ⟨k31, Below.refl _ _⟩
            exact K2.rel_nil
          · intro fa fw hfB hfy hff hfs hfd
            rw [hRs] at hfy
            have k4 : (RowT w.heap.size (ss ++ [kindB false, z, idB dv])) (fa.eval (.tmp 4)) fw := hfy 9 _ rfl (K2.unkilled (by decide))
            replace k4 : RowT w.heap.size (ss ++ [kindB false, z, idB dv]) (fa.tmps.getD 4 undef) fw := k4
            have HBf := Lib.hid (show Below w.heap.size w fw from HLo2.out.bl.drew.trans hfB)
            have e := K2.rel_frame [23, 24, 25, 26, 27, 28, 29, 30, 31, 4] (by kernel_rfl) hff hfs hfd
            simp only [List.foldl] at e
            clear hfy hff hfs hfd 
            generalize fa.tmps.getD 23 undef = x23 at e
            generalize fa.tmps.getD 24 undef = x24 at e
            generalize fa.tmps.getD 25 undef = x25 at e
            generalize fa.tmps.getD 26 undef = x26 at e
            generalize fa.tmps.getD 27 undef = x27 at e
            generalize fa.tmps.getD 28 undef = x28 at e
            generalize fa.tmps.getD 29 undef = x29 at e
            generalize fa.tmps.getD 30 undef = x30 at e
            generalize fa.tmps.getD 31 undef = x31 at e
            generalize fa.tmps.getD 4 undef = x4 at e k4
            simp [List.setIfInBounds_toArray, List.set_cons_succ, List.set_cons_zero] at e
            subst e
            have HLn := Lib.hid (show LoS w _ x4 fw from ⟨k4.own, HBf.out⟩)
            clear k4
            go_wp2_with fail
            go_roundg (gk - 1)
            case measure => omega
            case rel => exact ⟨k + 1, by omega, by go_num, by rw [Hnx.out]; exact HLn.out⟩
      · have hnI : ¬ (k : Int) < (len : Int) := by omega
        have HL1 := Lib.hid (show LoS w (partsE a) u4 wr by have := HLo.out; rwa [List.take_of_length_le (by have := Ha.out; omega)] at this)
        have Hpl := Lib.hid (show (partsE a).length ≤ 1099511627776 by rw [partsE_len]; have := Ha.out; omega)
        clear HLo
        go_wp2_with fail
        refine (S.join_any _ (partsE a) wr (Strs.ofRow HL1.out.ow) Htot.out Hpl.out).mono ?_
        rintro e w5 ⟨rfl, hB5⟩
        have HB5 := Lib.hid (HL1.out.bl.trans (hB5.mono HL1.out.bl.size))
        clear hB5
        go_wp2_with fail
        go_ret2
        exact ⟨by rw [Hfin.out]; rfl, HB5.out⟩

end Go.Proofs.YtdhaanaenklleaaGreatDoor
namespace Go.Proofs.YtdhaanaenklleaaGreatDoor
set_option linter.unusedVariables false
set_option linter.unusedSimpArgs false
open Go.ChangeShapes Go.WideShapes Go.ChangeAt Go.RowKit
theorem id_one (l : List UInt8) : (bytV l).toArray.all (·.oneCell') = true := one_row fun u hu => by
  simp only [bytV, List.mem_map] at hu
  obtain ⟨b, _, rfl⟩ := hu; rfl
theorem results_cell_tmp {P : Program} {fn : Func} {p q : Tmp} {ty : TypeId} (h : fn.results = #[.cell p ty, .tmp q]) (tmps : Array Value) (w : World) (g : Nat) (t : TypeId) (cs : Array Value) (fr : Nat × Nat) (d : TypeDesc) (v : Value)
    (hp : tmps.getD p undef = .pointer (some ⟨g, 0, none⟩)) (hq : tmps.getD q undef = v) (hg : w.heap[g]? = some (.cells cs t fr))
    (hu : P.underlying ty = some d) (hd : (match d with | .struct _ | .array _ _ => true | _ => false) = true) (hi : (P.info? ty).map (·.size) = some cs.size) :
    (results fn tmps).run P w = .ok (.tuple #[.agg cs, v]) w := by
  have hp' : tmps[p]?.getD undef = .pointer (some ⟨g, 0, none⟩) := by simpa using hp
  have hq' : tmps[q]?.getD undef = v := by simpa using hq
  simp [results, h, hp', hq', asAddr, run_loadVar_row w g t ty cs fr d hg hu hd hi]
theorem two_at0 (w : World) (X Y : Obj) : ((w.alloc X).alloc Y).heap[w.heap.size]? = some X := by
  show ((w.heap.push X).push Y)[w.heap.size]? = _
  rw [Array.getElem?_push_lt (by simp), ← Array.getElem?_eq_getElem]; simp
theorem two_at1 (w : World) (X Y : Obj) : ((w.alloc X).alloc Y).heap[w.heap.size + 1]? = some Y := by
  show ((w.heap.push X).push Y)[w.heap.size + 1]? = _
  rw [show w.heap.size + 1 = (w.heap.push X).size by simp, Array.getElem?_push_size]
theorem id_size {l : List UInt8} (h : l.length = 32) : (Tryz.prog.info? 32).map (·.size) = some (bytV l).toArray.size := by
  rw [List.size_toArray, bytV_len, h]; kernel_rfl
end Go.Proofs.YtdhaanaenklleaaGreatDoor
namespace Go.Proofs.YtdhaanaenklleaaGreatDoor
set_option linter.unusedVariables false
set_option linter.unusedSimpArgs false
open Go.ChangeShapes Go.WideShapes Go.ChangeAt Go.RowKit
open Go

theorem ints_bytes (s : ByteArray) : S.ints .u8 (S.bytesL s) = (bytV s.data.toList).toArray := by
  have := congrArg List.toArray (S.byteCells_ints s.data.toList)
  rw [Array.toArray_toList] at this
  exact this.symm
theorem bytes_at (s : ByteArray) (k : Nat) (h : k < s.size) : (S.bytesL s).take (k + 1) = (S.bytesL s).take k ++ [s[k].toNat] := by
  have hl : k < (S.bytesL s).length := by rw [S.bytesL_len]; exact h
  rw [List.take_succ_eq_append_getElem hl]
  congr 2
  simp only [S.bytesL, List.getElem_map, Array.getElem_toList]
  rfl
set_option maxRecDepth 100000 in
set_option maxHeartbeats 2000000 in
theorem digest_any (s : ByteArray) (w : World) (hs : s.size = 32) : Calls Tryz.prog 103 #[.string s] w fun e w' => e = .returned (.agg (bytV s.data.toList).toArray) ∧ Below w.heap.size w w' := by
  have Hz := Lib.hid (id_size (l := s.data.toList) (by rw [← Lib.size_eq, hs]))
  have hB : Below w.heap.size w ((w.alloc (.cells #[.int .u8 0, .int .u8 0, .int .u8 0, .int .u8 0, .int .u8 0, .int .u8 0, .int .u8 0, .int .u8 0, .int .u8 0, .int .u8 0, .int .u8 0, .int .u8 0, .int .u8 0, .int .u8 0, .int .u8 0, .int .u8 0, .int .u8 0, .int .u8 0, .int .u8 0, .int .u8 0, .int .u8 0, .int .u8 0, .int .u8 0, .int .u8 0, .int .u8 0, .int .u8 0, .int .u8 0, .int .u8 0, .int .u8 0, .int .u8 0, .int .u8 0, .int .u8 0] 32)).alloc (.cells #[.int .u8 0, .int .u8 0, .int .u8 0, .int .u8 0, .int .u8 0, .int .u8 0, .int .u8 0, .int .u8 0, .int .u8 0, .int .u8 0, .int .u8 0, .int .u8 0, .int .u8 0, .int .u8 0, .int .u8 0, .int .u8 0, .int .u8 0, .int .u8 0, .int .u8 0, .int .u8 0, .int .u8 0, .int .u8 0, .int .u8 0, .int .u8 0, .int .u8 0, .int .u8 0, .int .u8 0, .int .u8 0, .int .u8 0, .int .u8 0, .int .u8 0, .int .u8 0] 32)) := ((Below.refl _ w).alloc (Nat.le_refl _) _).alloc (by simp) _
  have HB := Lib.hid hB
  have HA := Lib.hid (show S.Arr ((w.alloc (.cells #[.int .u8 0, .int .u8 0, .int .u8 0, .int .u8 0, .int .u8 0, .int .u8 0, .int .u8 0, .int .u8 0, .int .u8 0, .int .u8 0, .int .u8 0, .int .u8 0, .int .u8 0, .int .u8 0, .int .u8 0, .int .u8 0, .int .u8 0, .int .u8 0, .int .u8 0, .int .u8 0, .int .u8 0, .int .u8 0, .int .u8 0, .int .u8 0, .int .u8 0, .int .u8 0, .int .u8 0, .int .u8 0, .int .u8 0, .int .u8 0, .int .u8 0, .int .u8 0] 32)).alloc (.cells #[.int .u8 0, .int .u8 0, .int .u8 0, .int .u8 0, .int .u8 0, .int .u8 0, .int .u8 0, .int .u8 0, .int .u8 0, .int .u8 0, .int .u8 0, .int .u8 0, .int .u8 0, .int .u8 0, .int .u8 0, .int .u8 0, .int .u8 0, .int .u8 0, .int .u8 0, .int .u8 0, .int .u8 0, .int .u8 0, .int .u8 0, .int .u8 0, .int .u8 0, .int .u8 0, .int .u8 0, .int .u8 0, .int .u8 0, .int .u8 0, .int .u8 0, .int .u8 0] 32)) (w.heap.size + 1) 32 32 .u8 ((S.bytesL s).take 0) from
    ⟨#[.int .u8 0, .int .u8 0, .int .u8 0, .int .u8 0, .int .u8 0, .int .u8 0, .int .u8 0, .int .u8 0, .int .u8 0, .int .u8 0, .int .u8 0, .int .u8 0, .int .u8 0, .int .u8 0, .int .u8 0, .int .u8 0, .int .u8 0, .int .u8 0, .int .u8 0, .int .u8 0, .int .u8 0, .int .u8 0, .int .u8 0, .int .u8 0, .int .u8 0, .int .u8 0, .int .u8 0, .int .u8 0, .int .u8 0, .int .u8 0, .int .u8 0, .int .u8 0], two_at1 w (.cells #[.int .u8 0, .int .u8 0, .int .u8 0, .int .u8 0, .int .u8 0, .int .u8 0, .int .u8 0, .int .u8 0, .int .u8 0, .int .u8 0, .int .u8 0, .int .u8 0, .int .u8 0, .int .u8 0, .int .u8 0, .int .u8 0, .int .u8 0, .int .u8 0, .int .u8 0, .int .u8 0, .int .u8 0, .int .u8 0, .int .u8 0, .int .u8 0, .int .u8 0, .int .u8 0, .int .u8 0, .int .u8 0, .int .u8 0, .int .u8 0, .int .u8 0, .int .u8 0] 32) (.cells #[.int .u8 0, .int .u8 0, .int .u8 0, .int .u8 0, .int .u8 0, .int .u8 0, .int .u8 0, .int .u8 0, .int .u8 0, .int .u8 0, .int .u8 0, .int .u8 0, .int .u8 0, .int .u8 0, .int .u8 0, .int .u8 0, .int .u8 0, .int .u8 0, .int .u8 0, .int .u8 0, .int .u8 0, .int .u8 0, .int .u8 0, .int .u8 0, .int .u8 0, .int .u8 0, .int .u8 0, .int .u8 0, .int .u8 0, .int .u8 0, .int .u8 0, .int .u8 0] 32), rfl, fun j hj => by
      rw [List.take_zero]
      show (Array.replicate 32 (Value.int .u8 0))[j]? = _
      rw [Array.getElem?_replicate, if_pos hj]; simp⟩)
  have H0 := Lib.hid (two_at0 w (.cells #[.int .u8 0, .int .u8 0, .int .u8 0, .int .u8 0, .int .u8 0, .int .u8 0, .int .u8 0, .int .u8 0, .int .u8 0, .int .u8 0, .int .u8 0, .int .u8 0, .int .u8 0, .int .u8 0, .int .u8 0, .int .u8 0, .int .u8 0, .int .u8 0, .int .u8 0, .int .u8 0, .int .u8 0, .int .u8 0, .int .u8 0, .int .u8 0, .int .u8 0, .int .u8 0, .int .u8 0, .int .u8 0, .int .u8 0, .int .u8 0, .int .u8 0, .int .u8 0] 32) (.cells #[.int .u8 0, .int .u8 0, .int .u8 0, .int .u8 0, .int .u8 0, .int .u8 0, .int .u8 0, .int .u8 0, .int .u8 0, .int .u8 0, .int .u8 0, .int .u8 0, .int .u8 0, .int .u8 0, .int .u8 0, .int .u8 0, .int .u8 0, .int .u8 0, .int .u8 0, .int .u8 0, .int .u8 0, .int .u8 0, .int .u8 0, .int .u8 0, .int .u8 0, .int .u8 0, .int .u8 0, .int .u8 0, .int .u8 0, .int .u8 0, .int .u8 0, .int .u8 0] 32))
  have Hone := Lib.hid (id_one s.data.toList)
  have Hl := Lib.hid (show 32 = (bytV s.data.toList).toArray.size by rw [List.size_toArray, bytV_len, ← Lib.size_eq, hs])
  have Hib := Lib.hid (ints_bytes s)
  have Hbl := Lib.hid (S.bytesL_len s)
  have Hnx := Lib.hid (fun k h => bytes_at s k h)
  clear hB
  go_enter Tryz.func103, Tryz.ntmps103
  go_wp2_with fail
  go_loopg [4, 5] 32 (fun g _ iv wr => ∃ k : Nat, k + g = 32 ∧ iv = .int .i64 k ∧ S.Arr wr (w.heap.size + 1) 32 32 .u8 ((S.bytesL s).take k) ∧ Below (w.heap.size + 1) ((w.alloc (.cells #[.int .u8 0, .int .u8 0, .int .u8 0, .int .u8 0, .int .u8 0, .int .u8 0, .int .u8 0, .int .u8 0, .int .u8 0, .int .u8 0, .int .u8 0, .int .u8 0, .int .u8 0, .int .u8 0, .int .u8 0, .int .u8 0, .int .u8 0, .int .u8 0, .int .u8 0, .int .u8 0, .int .u8 0, .int .u8 0, .int .u8 0, .int .u8 0, .int .u8 0, .int .u8 0, .int .u8 0, .int .u8 0, .int .u8 0, .int .u8 0, .int .u8 0, .int .u8 0] 32)).alloc (.cells #[.int .u8 0, .int .u8 0, .int .u8 0, .int .u8 0, .int .u8 0, .int .u8 0, .int .u8 0, .int .u8 0, .int .u8 0, .int .u8 0, .int .u8 0, .int .u8 0, .int .u8 0, .int .u8 0, .int .u8 0, .int .u8 0, .int .u8 0, .int .u8 0, .int .u8 0, .int .u8 0, .int .u8 0, .int .u8 0, .int .u8 0, .int .u8 0, .int .u8 0, .int .u8 0, .int .u8 0, .int .u8 0, .int .u8 0, .int .u8 0, .int .u8 0, .int .u8 0] 32)) wr)
  case atStart => exact ⟨0, by omega, rfl, HA.out, Below.refl _ _⟩
  case round =>
    obtain ⟨k, hkg, rfl, hA, hBw⟩ := hrel
    have HBw := Lib.hid hBw
    clear hBw HA
    by_cases hlt : k < 32
    · have hltI : (k : Int) < 32 := by omega
      have hks : k < s.size := by omega
      have hksI : (k : Int) < (s.size : Int) := by omega
      have c1 := hA.cell k hlt
      have f1 := hA.free k
      have htl : ((S.bytesL s).take k).length = k := by rw [List.length_take, Hbl.out]; omega
      have Hn := Lib.hid (fun v => (by have h := hA.snoc (by rw [htl]; exact hlt) v; rw [htl] at h; exact h : S.Arr (wr.setCell ⟨w.heap.size + 1, k, none⟩ (.int .u8 ((v : Nat) : Int))) (w.heap.size + 1) 32 32 .u8 ((S.bytesL s).take k ++ [v])))
      have HBs := Lib.hid (fun v => HBw.out.setCell (p := ⟨w.heap.size + 1, k, none⟩) (Nat.le_refl _) v)
      clear hA htl
      go_wp2_with fail
      go_roundg (gk - 1)
      case measure => omega
      case rel => exact ⟨k + 1, by omega, by go_num, by rw [Hnx.out k hks]; exact Hn.out _, HBs.out _⟩
    · have hnI : ¬ (k : Int) < 32 := by omega
      have hwh := hA.whole (by rw [List.length_take, Hbl.out]; omega)
      rw [List.take_of_length_le (by rw [Hbl.out]; omega), Hib.out] at hwh
      have Hwh := Lib.hid hwh
      have H00 := Lib.hid (show wr.heap[w.heap.size]? = some (.cells #[.int .u8 0, .int .u8 0, .int .u8 0, .int .u8 0, .int .u8 0, .int .u8 0, .int .u8 0, .int .u8 0, .int .u8 0, .int .u8 0, .int .u8 0, .int .u8 0, .int .u8 0, .int .u8 0, .int .u8 0, .int .u8 0, .int .u8 0, .int .u8 0, .int .u8 0, .int .u8 0, .int .u8 0, .int .u8 0, .int .u8 0, .int .u8 0, .int .u8 0, .int .u8 0, .int .u8 0, .int .u8 0, .int .u8 0, .int .u8 0, .int .u8 0, .int .u8 0] 32 (0, 0)) by
        rw [← H0.out]; exact HBw.out.block w.heap.size (Nat.lt_succ_self _))
      have HBe := Lib.hid (HB.out.trans (HBw.out.mono (Nat.le_succ _)))
      clear hA hwh
      obtain ⟨R, hR⟩ : ∃ R, R = (bytV s.data.toList).toArray := ⟨_, rfl⟩
      rw [← hR] at Hz Hone Hl Hwh
      have HR := Lib.hid hR
      clear hR
      go_wp2_with (first
        | (refine wpList_load_row rfl 32 _ rfl (w.heap.size + 1) rfl 32 R (0, 0) _ Hwh.out Tryz.underlying32 rfl Hz.out ?_)
        | (refine wpList_store_rowTo rfl 32 _ _ rfl rfl w.heap.size R rfl rfl 32 _ H00.out Hz.out (by rw [← Hl.out]; rfl) Hone.out ?_))
      refine bodyPost_ret (v := .agg R) (results_cell_row (fr := (0, 0)) rfl _ _ w.heap.size 32 _ _ rfl (setRow_heap _ _ #[.int .u8 0, .int .u8 0, .int .u8 0, .int .u8 0, .int .u8 0, .int .u8 0, .int .u8 0, .int .u8 0, .int .u8 0, .int .u8 0, .int .u8 0, .int .u8 0, .int .u8 0, .int .u8 0, .int .u8 0, .int .u8 0, .int .u8 0, .int .u8 0, .int .u8 0, .int .u8 0, .int .u8 0, .int .u8 0, .int .u8 0, .int .u8 0, .int .u8 0, .int .u8 0, .int .u8 0, .int .u8 0, .int .u8 0, .int .u8 0, .int .u8 0, .int .u8 0] R 32 (0, 0) H00.out) Tryz.underlying32 rfl Hz.out) rfl ⟨by rw [HR.out], below_setRow HBe.out (Nat.le_refl _) R⟩
end Go.Proofs.YtdhaanaenklleaaGreatDoor
