/- A file's bytes are put into the tree's store; Entries are copied; a tree's text has a name, of whatever length; A tree's text has a name, of up to a million bytes; putting a tree; A tree is put into its store. -/
import Derived.Test.YtdhaanaenklleaaGreatDoorQ5
import Derived.Test.YtdhaanaenklleaaGreatDoorXRc
import Derived.Laws.ResultCell
import Derived.Deep.Onto
namespace Go.Proofs.YtdhaanaenklleaaGreatDoor
set_option linter.unusedVariables false
set_option linter.unusedSimpArgs false
open Go.ChangeShapes Go.WideShapes Go.ChangeAt Go.RowKit

/-- All blocks that were there, but those in T, are as they were. -/
structure Kp (T : Nat → Prop) (w w' : World) : Prop where
  os : w'.os = w.os
  tape : w'.tape = w.tape
  output : w'.output = w.output
  size : w.heap.size ≤ w'.heap.size
  block : ∀ k, k < w.heap.size → ¬ T k → w'.heap[k]? = w.heap[k]?
theorem Kp.of_below {T : Nat → Prop} {w w' : World} (h : Below w.heap.size w w') : Kp T w w' := ⟨h.os, h.tape, h.output, h.size, fun k hk _ => h.block k hk⟩
theorem Kp.trans {T : Nat → Prop} {a b c : World} (h : Kp T a b) (k : Kp T b c) : Kp T a c := ⟨k.os.trans h.os, k.tape.trans h.tape, k.output.trans h.output, Nat.le_trans h.size k.size, fun i hi hn => (k.block i (Nat.lt_of_lt_of_le hi h.size) hn).trans (h.block i hi hn)⟩
theorem Kp.below {T : Nat → Prop} {w w' : World} {B : Nat} (h : Kp T w w') (hs : ∀ k, T k → B ≤ k) (hB : B ≤ w.heap.size) : Below B w w' := ⟨h.os, h.tape, h.output, h.size, fun k hk => h.block k (Nat.lt_of_lt_of_le hk hB) (fun x => by have := hs k x; omega)⟩
/-- A blob's name, as bytes. -/
def byL (l : List Nat) : List UInt8 := l.map UInt8.ofNat
def bid (s : ByteArray) : List UInt8 := byL (dg ⟨#[98, 108, 111, 98]⟩ s)
def tid (s : ByteArray) : List UInt8 := byL (dg ⟨#[116, 114, 101, 101]⟩ s)
theorem byL_len (l : List Nat) : (byL l).length = l.length := by simp [byL]
theorem byL_ints (l : List Nat) (h : S.Small 256 l) : S.ints .u8 l = (bytV (byL l)).toArray := by
  unfold S.ints bytV byL
  rw [List.map_map]
  congr 1
  refine List.map_congr_left (fun n hn => ?_)
  obtain ⟨j, hj, hjn⟩ := List.getElem_of_mem hn
  have hlt : n < 256 := by
    have := h j
    rw [List.getD_eq_getElem?_getD, List.getElem?_eq_getElem hj, hjn] at this
    exact this
  show Value.int .u8 (n : Int) = Value.int .u8 (((UInt8.ofNat n).toNat : Nat) : Int)
  rw [UInt8.toNat_ofNat_of_lt' (by simpa using hlt)]
/-- An id in a cell, beside an error. -/
theorem rid0 {F : Func} {p u : Tmp} (hr : F.results = #[.cell p 32, .tmp u]) {Rr : Ending → World → Prop} {ac : Act} {w : World} {g : Nat} {cs : Array Value} {n : Value} (hg : w.heap[g]? = some (.cells cs 32 (0, 0))) (h6 : (Tryz.prog.info? 32).map (·.size) = some cs.size)
    (hp : ac.tmps.getD p undef = .pointer (some ⟨g, 0, none⟩)) (hn : ac.tmps.getD u undef = n) (hd : ac.defers = []) (hR : Rr (.returned (.tuple #[.agg cs, n])) w) : bodyPost Tryz.prog F Rr .ret ac w := by
  refine bodyPost_ret ?_ hd hR
  rw [Go.results_cell_tmp hr, hp, hn]
  simp only [asAddr, Sem.run_pure, Result.andThen_ok, run_loadVar_row w g 32 32 cs (0, 0) _ hg Tryz.underlying32 rfl h6]
set_option maxRecDepth 100000 in
set_option maxHeartbeats 4000000 in
theorem putBlob_any {T : Nat → Prop} {b : Nat} {fb ft fc : List UInt8 → Option Value} {nb nt nc : Nat} {w : World} (k : Sto T b fb ft fc nb nt nc w) (hT : ∀ q, T q → 0 < q ∧ q < w.heap.size) (hK : S.KeysAt w) (s : ByteArray) (hs : s.size ≤ 4096) (hn : nb ≤ 1048576) :
    Calls Tryz.prog 18 #[.pointer (some ⟨b, 0, none⟩), .string s] w fun e w' => e = .returned (.tuple #[.agg (bytV (bid s)).toArray, .int .i64 0]) ∧ Sto T b (putF fb (bid s) (.agg #[.string s])) ft fc (if (fb (bid s)).isSome = true then nb else nb + 1) nt nc w' ∧ Kp T w w' := by
  obtain ⟨nb2, hnb2⟩ : ∃ q, q = (if (fb (bid s)).isSome = true then nb else nb + 1) := ⟨_, rfl⟩
  rw [← hnb2]
  have Hnb2 := Lib.hid hnb2
  clear hnb2
  have HR := Lib.hid (Res37.made w #[.int .u8 0, .int .u8 0, .int .u8 0, .int .u8 0, .int .u8 0, .int .u8 0, .int .u8 0, .int .u8 0, .int .u8 0, .int .u8 0, .int .u8 0, .int .u8 0, .int .u8 0, .int .u8 0, .int .u8 0, .int .u8 0, .int .u8 0, .int .u8 0, .int .u8 0, .int .u8 0, .int .u8 0, .int .u8 0, .int .u8 0, .int .u8 0, .int .u8 0, .int .u8 0, .int .u8 0, .int .u8 0, .int .u8 0, .int .u8 0, .int .u8 0, .int .u8 0] rfl)
  have hB0 := HR.out.b
  have hsz : (w.alloc (.cells #[.int .u8 0, .int .u8 0, .int .u8 0, .int .u8 0, .int .u8 0, .int .u8 0, .int .u8 0, .int .u8 0, .int .u8 0, .int .u8 0, .int .u8 0, .int .u8 0, .int .u8 0, .int .u8 0, .int .u8 0, .int .u8 0, .int .u8 0, .int .u8 0, .int .u8 0, .int .u8 0, .int .u8 0, .int .u8 0, .int .u8 0, .int .u8 0, .int .u8 0, .int .u8 0, .int .u8 0, .int .u8 0, .int .u8 0, .int .u8 0, .int .u8 0, .int .u8 0] 32)).heap.size = w.heap.size + 1 := by simp
  have hsI : ¬ (32768 : Int) < (s.size : Int) := by omega
  have HK := Lib.hid k
  have HT := Lib.hid hT
  have HN := Lib.hid (name30_any s (w.alloc (.cells #[.int .u8 0, .int .u8 0, .int .u8 0, .int .u8 0, .int .u8 0, .int .u8 0, .int .u8 0, .int .u8 0, .int .u8 0, .int .u8 0, .int .u8 0, .int .u8 0, .int .u8 0, .int .u8 0, .int .u8 0, .int .u8 0, .int .u8 0, .int .u8 0, .int .u8 0, .int .u8 0, .int .u8 0, .int .u8 0, .int .u8 0, .int .u8 0, .int .u8 0, .int .u8 0, .int .u8 0, .int .u8 0, .int .u8 0, .int .u8 0, .int .u8 0, .int .u8 0] 32)) (hK.below hK.1 hB0) hs)
  have hri := byL_ints (dg ⟨#[98, 108, 111, 98]⟩ s) (dg_small _ _)
  have hkey := key37 (bid s) (by unfold bid; rw [byL_len, dg_len])
  have Hone := Lib.hid (S.ints_one .u8 (dg ⟨#[98, 108, 111, 98]⟩ s))
  have Hz := Lib.hid (size37 _ (dg_len ⟨#[98, 108, 111, 98]⟩ s))
  have Hs := Lib.hid (show (S.ints .u8 (dg ⟨#[98, 108, 111, 98]⟩ s)).size = 32 by rw [S.ints_size, dg_len])
  have HRi := Lib.hid (show S.ints .u8 (dg ⟨#[98, 108, 111, 98]⟩ s) = (bytV (bid s)).toArray from hri)
  rw [← HRi.out] at hkey ⊢
  have HKey := Lib.hid hkey
  clear hri hkey hK k hT hB0
  generalize S.ints .u8 (dg ⟨#[98, 108, 111, 98]⟩ s) = R at *
  go_enter Tryz.func18, Tryz.ntmps18
  go_upto_region 5 with fail
  generalize w.alloc (.cells #[.int .u8 0, .int .u8 0, .int .u8 0, .int .u8 0, .int .u8 0, .int .u8 0, .int .u8 0, .int .u8 0, .int .u8 0, .int .u8 0, .int .u8 0, .int .u8 0, .int .u8 0, .int .u8 0, .int .u8 0, .int .u8 0, .int .u8 0, .int .u8 0, .int .u8 0, .int .u8 0, .int .u8 0, .int .u8 0, .int .u8 0, .int .u8 0, .int .u8 0, .int .u8 0, .int .u8 0, .int .u8 0, .int .u8 0, .int .u8 0, .int .u8 0, .int .u8 0] 32) = w1 at *
  go_wp2_with fail
  refine HN.out.mono ?_
  rintro e w2 ⟨rfl, hB⟩
  have HR2 := Lib.hid (HR.out.below hB)
  clear hB HN
  go_upto_region 6 with (first | (refine wpList_store_rowTo rfl 32 (.tmp 6) (.tmp 15) rfl rfl w2.heap.size R rfl rfl 32 _ (heap_alloc_new w2 _) Hz.out (by rw [Hs.out]; rfl) Hone.out ?_))
  have hB4 := below_setRow ((Below.refl w2.heap.size w2).alloc (Nat.le_refl _) (.cells #[.int .u8 0, .int .u8 0, .int .u8 0, .int .u8 0, .int .u8 0, .int .u8 0, .int .u8 0, .int .u8 0, .int .u8 0, .int .u8 0, .int .u8 0, .int .u8 0, .int .u8 0, .int .u8 0, .int .u8 0, .int .u8 0, .int .u8 0, .int .u8 0, .int .u8 0, .int .u8 0, .int .u8 0, .int .u8 0, .int .u8 0, .int .u8 0, .int .u8 0, .int .u8 0, .int .u8 0, .int .u8 0, .int .u8 0, .int .u8 0, .int .u8 0, .int .u8 0] 32)) (g := w2.heap.size) (Nat.le_refl _) R
  have hG4 := setRow_heap (w2.alloc (.cells #[.int .u8 0, .int .u8 0, .int .u8 0, .int .u8 0, .int .u8 0, .int .u8 0, .int .u8 0, .int .u8 0, .int .u8 0, .int .u8 0, .int .u8 0, .int .u8 0, .int .u8 0, .int .u8 0, .int .u8 0, .int .u8 0, .int .u8 0, .int .u8 0, .int .u8 0, .int .u8 0, .int .u8 0, .int .u8 0, .int .u8 0, .int .u8 0, .int .u8 0, .int .u8 0, .int .u8 0, .int .u8 0, .int .u8 0, .int .u8 0, .int .u8 0, .int .u8 0] 32)) w2.heap.size _ R 32 (0, 0) (heap_alloc_new w2 _)
  generalize (w2.alloc (.cells #[.int .u8 0, .int .u8 0, .int .u8 0, .int .u8 0, .int .u8 0, .int .u8 0, .int .u8 0, .int .u8 0, .int .u8 0, .int .u8 0, .int .u8 0, .int .u8 0, .int .u8 0, .int .u8 0, .int .u8 0, .int .u8 0, .int .u8 0, .int .u8 0, .int .u8 0, .int .u8 0, .int .u8 0, .int .u8 0, .int .u8 0, .int .u8 0, .int .u8 0, .int .u8 0, .int .u8 0, .int .u8 0, .int .u8 0, .int .u8 0, .int .u8 0, .int .u8 0] 32)).setRow w2.heap.size R = w4 at *
  have hR4 := HR2.out.below hB4
  have hs2 := HR2.out.b.size
  have hs4 := hB4.size
  have HBw := Lib.hid hR4.b
  have HK4 := Lib.hid (HK.out.same (w' := w4) (fun q hq => hR4.b.block q (HT.out q hq).2))
  have HR4 := Lib.hid hR4
  obtain ⟨m1, m2, m3, hb, hm1, hm2, hm3, hne, hTm⟩ := HK4.out.f
  have HL1 := Lib.hid (fun w' (hB : Below w4.heap.size w4 w') => show (loadVar 77 ⟨b, 0, none⟩).run Tryz.prog w' = .ok (.map (some m1)) w' from by
    have h := block_cell ((hB.block b (lt_of_block hb)).trans hb) 0
    simp [go_sem, h])
  have Hb := Lib.hid hb
  have Hm1 := Lib.hid hm1
  have Hm2 := Lib.hid hm2
  have Hm3 := Lib.hid hm3
  have Hne := Lib.hid hne
  have HTm := Lib.hid hTm
  have HG := Lib.hid (fun wx (hx : Below w4.heap.size w4 wx) => (hx.block _ (lt_of_block hG4)).trans hG4)
  have Hg := Lib.hid hG4
  clear hB4 hG4 hR4 hb hm1 hm2 hm3 hne hTm HR2 HR
  refine S.wp_region_class_tail (Below w4.heap.size w4) 7 (by kernel_rfl) (by kernel_rfl) (Below.refl _ _).drew ?_
  simp only [List.take_succ_cons, List.take_zero, List.drop_succ_cons, List.drop_zero]
  repeat (go_big_quiet_step (first | (intro _; rfl)))
  refine wpQuiet_load_at rfl 77 (.tmp 18) rfl ⟨b, 0, none⟩ rfl (.map (some m1)) HL1.out ?_
  simp only [Act.put, List.setIfInBounds_toArray, List.set_cons_succ, List.set_cons_zero]
  refine S.wpQuiet_load_row rfl 32 (.tmp 6) rfl w2.heap.size rfl 32 R (0, 0) _ HG.out Tryz.underlying32 rfl Hz.out ?_
  simp only [Act.put, List.setIfInBounds_toArray, List.set_cons_succ, List.set_cons_zero]
  repeat (go_big_quiet_step (first | (intro _; rfl)))
  refine wpQuiet_nil ?_
  intro w5 hB5
  refine wpList_put_mp rfl (.tmp 19) (.tmp 20) (.tmp 22) 77 rfl (Hm1.out.of_block (hB5.block _ Hm1.out.lt)) keyed37 Tryz.underlying77 (by unfold maxLen; omega) rfl strKeys (.agg R) (.agg #[.string s]) (bid s) rfl rfl HKey.out ?_
  intro w6 hmp6 hg6
  have hT := HT.out
  have t1 := (hT _ HTm.out.1).2
  have t2 := (hT _ HTm.out.2.1).2
  have t3 := (hT _ HTm.out.2.2.1).2
  have t4 := (hT _ HTm.out.2.2.2).2
  have hw4 := HBw.out.size
  have hs5 := hB5.size
  have hR5 := HR4.out.below hB5
  obtain ⟨cs, hcs, hcz⟩ := hR5.at_
  have hlr := lt_of_block hcs
  have hcs6 : w6.heap[w.heap.size]? = some (.cells cs 32 (0, 0)) := (hg6.block _ hlr (fun e => by injection e with e; omega)).trans hcs
  have hgl := lt_of_block Hg.out
  have hG6 : w6.heap[w2.heap.size]? = some (.cells R 32 (0, 0)) := (hg6.block _ (by omega) (fun e => by injection e with e; omega)).trans ((hB5.block _ hgl).trans Hg.out)
  have hk6 : ∀ q, q < w5.heap.size → q ≠ m1 → w6.heap[q]? = w5.heap[q]? := fun q hq hne => hg6.block q hq (fun e => by injection e with e; exact hne e)
  have HKp := Lib.hid (show Kp T w w6 from ⟨hg6.os.trans hR5.b.os, hg6.tape.trans hR5.b.tape, hg6.output.trans hR5.b.output, Nat.le_trans hR5.b.size hg6.size, fun q hq hn => (hk6 q (Nat.lt_of_lt_of_le hq hR5.b.size) (fun e => hn (e ▸ HTm.out.2.1))).trans (hR5.b.block q hq)⟩)
  rw [← Hnb2.out] at hmp6
  have HK6 := Lib.hid (show Sto T b (putF fb (bid s) (.agg #[.string s])) ft fc nb2 nt nc w6 from
    ⟨m1, m2, m3, (hk6 b (by omega) Hne.out.1).trans ((hB5.block _ (by omega)).trans Hb.out), hmp6, (Hm2.out.of_block (hB5.block _ (by omega))).of_block (hk6 m2 (by omega) (Ne.symm Hne.out.2.2.2.1)), (Hm3.out.of_block (hB5.block _ (by omega))).of_block (hk6 m3 (by omega) (Ne.symm Hne.out.2.2.2.2.1)), Hne.out, HTm.out⟩)
  have HCs := Lib.hid hcs6
  have HG6 := Lib.hid hG6
  have hcz2 : cs.size = R.size := by rw [hcz, Hs.out]
  clear hmp6 hg6 hk6 hG6 hcs6 hcs hR5 hB5 hT t1 t2 t3 t4 hgl hlr hs5 hw4 hcz
  go_wp2_with (first | (refine wpList_load_row rfl 32 (.tmp 6) rfl w2.heap.size rfl 32 R (0, 0) _ HG6.out Tryz.underlying32 rfl Hz.out ?_) | (refine wpList_store_rowTo rfl 32 (.tmp 4) (.tmp 23) rfl rfl w.heap.size R rfl rfl 32 cs HCs.out Hz.out hcz2 Hone.out ?_))
  have hfin := setRow_heap w6 w.heap.size cs R 32 (0, 0) HCs.out
  refine rid0 rfl hfin Hz.out rfl rfl rfl ⟨rfl, HK6.out.same (fun q hq => setRow_other _ _ _ _ (by have := (HT.out q hq).2; omega)), ?_⟩
  have hkp := HKp.out
  exact ⟨hkp.os, hkp.tape, hkp.output, by simp [World.setRow]; exact hkp.size, fun q hq hn => (setRow_other _ _ _ _ (by omega)).trans (hkp.block q hq hn)⟩
end Go.Proofs.YtdhaanaenklleaaGreatDoor
namespace Go.Proofs.YtdhaanaenklleaaGreatDoor
set_option linter.unusedVariables false
set_option linter.unusedSimpArgs false
open Go.ChangeShapes Go.WideShapes Go.ChangeAt Go.RowKit

theorem wpList_append_first {t e : TypeId} {n by_ : Nat} {X : Type} {fl : X → List Value} (E : Elt t e n by_ fl) {w : World} {ops : Array Oper} {rest : List Oper} {o : Oper} {a : Act} {Q : Exit → Act → World → Prop} (hgd : o.guard = none) (s x : Operand)
    (ho : o.op = .call { callee := .builtin .append, args := #[s, x], argTypes := #[t, t] }) (hty : o.type = t) (base B : Nat) (hs : a.eval s = .slice (some ⟨B, 0, none⟩) 0 0) (hB : w.heap[B]? = some (.cells #[] e (0, 0))) (hbB : base ≤ B)
    (u : Value) (l : List X) (hu : LAt n fl w u l) (hx : a.eval x = u) (hb : l.length * by_ ≤ 140737488355328) (hbase : base ≤ w.heap.size)
    (h : ∀ v' w', w'.ownsRow base e n v' l.length (LF fl l) → Below w.heap.size w w' → wpList Tryz.prog ops Q rest (a.put o.dst v') w') : wpList Tryz.prog ops Q (o :: rest) a w := by
  obtain ⟨v', w', h1, h2, h3⟩ := run_append_first_gen E w base B u l hB hbB hu hb hbase
  refine wpList_plain hgd fun K hK' => ?_
  unfold Oper.wp
  simp [execOp, ho, hty, resolve, invoke, builtin, hs, hx, h1, Result.andThen]
  exact hK' _ _ (h v' w' h2 h3)
theorem eq_nil22 (p : Option Addr) (n c : Nat) (w : World) : (binOp .eql 55 (.slice p n c) (.slice none 0 0)).run Tryz.prog w = .ok (.bool p.isNone) w := by
  simp [binOp, go_sem, run_equal_slice_nil w 55 58 p n c Tryz.underlying55]
set_option maxRecDepth 100000 in
set_option maxHeartbeats 1000000 in
theorem clone_any (v : Value) (l : List Ent) (w : World) (hv : LAt 34 entV w v l) (hl : l.length ≤ 65536) : Calls Tryz.prog 48 #[v] w fun e w' => ∃ r, e = .returned r ∧ w'.ownsRow w.heap.size 58 34 r l.length (LF entV l) ∧ Below w.heap.size w w' := by
  have hv0 := hv
  obtain ⟨p, c, rfl, hp⟩ : ∃ p c, v = .slice p l.length c ∧ (p = none → l = []) := by
    rcases hv.2 with ⟨p, c, rfl, rfl⟩ | ⟨g, off, c, rfl, _⟩
    · exact ⟨p, c, rfl, fun _ => rfl⟩
    · exact ⟨_, c, rfl, fun h => by cases h⟩
  have HV := Lib.hid hv0
  cases p with
  | none =>
    have hl0 := hp rfl
    subst hl0
    have HB := Lib.hid (Below.refl w.heap.size w)
    clear hv hv0 hp
    have hnil : ∀ w1, (binOp .eql 55 (.slice none 0 c) (.slice none 0 0)).run Tryz.prog w1 = .ok (.bool true) w1 := fun w1 => eq_nil22 none 0 c w1
    change Calls Tryz.prog 48 #[.slice none 0 c] w _
    go_enter Tryz.func48, Tryz.ntmps48
    go_wp2_with fail
    go_ret
    exact ⟨_, rfl, ⟨rfl, .inl ⟨rfl, rfl⟩⟩, HB.out⟩
  | some ad =>
    have hB1 := (Below.refl w.heap.size w).alloc (Nat.le_refl _) (.cells #[] 58)
    have hN1 := heap_alloc_new w (.cells #[] 58)
    have HV1 := Lib.hid (hv0.below hB1)
    have HB1 := Lib.hid hB1
    have HN1 := Lib.hid hN1
    obtain ⟨ln, hln⟩ : ∃ ln, ln = l.length := ⟨_, rfl⟩
    rw [← hln] at HV1 ⊢
    have hln2 : ln ≤ 65536 := by omega
    have Hln := Lib.hid hln
    clear hv hv0 hp hB1 hN1 HV hln hl
    have hnil : ∀ w1, (binOp .eql 55 (.slice (some ad) ln c) (.slice none 0 0)).run Tryz.prog w1 = .ok (.bool false) w1 := fun w1 => eq_nil22 _ _ _ w1
    go_enter Tryz.func48, Tryz.ntmps48
    go_wp2_with (at_builtin; go_must (refine wpList_append_first eltE rfl (.tmp 5) (.tmp 6) rfl rfl w.heap.size w.heap.size rfl HN1.out (Nat.le_refl _) _ l HV1.out rfl (by have := Hln.out; omega) HB1.out.size ?_); intro v4 w4 hown4 hB4)
    go_ret
    exact ⟨v4, rfl, by have h := Hln.out; rw [h]; exact hown4, HB1.out.trans (hB4.mono HB1.out.size)⟩
end Go.Proofs.YtdhaanaenklleaaGreatDoor
namespace Go.Proofs.YtdhaanaenklleaaGreatDoor
set_option linter.unusedVariables false
set_option linter.unusedSimpArgs false
open Go.ChangeShapes Go.WideShapes Go.ChangeAt Go.RowKit
set_option maxRecDepth 100000 in
set_option maxHeartbeats 4000000 in
theorem name31_big (s : ByteArray) (w : World) (hK : S.KeysAt w) (hs : s.size ≤ 1048576) : Calls Tryz.prog 47 #[.string s] w fun e w' => e = .returned (.agg (S.ints .u8 (dg ⟨#[116, 114, 101, 101]⟩ s))) ∧ Below w.heap.size w w' := by
  have HB := Lib.hid (((Below.refl w.heap.size w).alloc (Nat.le_refl _) (.cells #[.int .u8 0, .int .u8 0, .int .u8 0, .int .u8 0, .int .u8 0, .int .u8 0, .int .u8 0, .int .u8 0, .int .u8 0, .int .u8 0, .int .u8 0, .int .u8 0, .int .u8 0, .int .u8 0, .int .u8 0, .int .u8 0, .int .u8 0, .int .u8 0, .int .u8 0, .int .u8 0, .int .u8 0, .int .u8 0, .int .u8 0, .int .u8 0, .int .u8 0, .int .u8 0, .int .u8 0, .int .u8 0, .int .u8 0, .int .u8 0, .int .u8 0, .int .u8 0] 32)).alloc (by simp) (.cells #[.string s] 9))
  have HR := Lib.hid ((Res37.made w #[.int .u8 0, .int .u8 0, .int .u8 0, .int .u8 0, .int .u8 0, .int .u8 0, .int .u8 0, .int .u8 0, .int .u8 0, .int .u8 0, .int .u8 0, .int .u8 0, .int .u8 0, .int .u8 0, .int .u8 0, .int .u8 0, .int .u8 0, .int .u8 0, .int .u8 0, .int .u8 0, .int .u8 0, .int .u8 0, .int .u8 0, .int .u8 0, .int .u8 0, .int .u8 0, .int .u8 0, .int .u8 0, .int .u8 0, .int .u8 0, .int .u8 0, .int .u8 0] rfl).below ((Below.refl _ _).alloc (Nat.le_refl _) (.cells #[.string s] 9)))
  have HS := Lib.hid (S.sum_any ⟨#[116, 114, 101, 101]⟩ (.slice (some ⟨w.heap.size + 1, 0, none⟩) 1 1) [s] ((w.alloc (.cells #[.int .u8 0, .int .u8 0, .int .u8 0, .int .u8 0, .int .u8 0, .int .u8 0, .int .u8 0, .int .u8 0, .int .u8 0, .int .u8 0, .int .u8 0, .int .u8 0, .int .u8 0, .int .u8 0, .int .u8 0, .int .u8 0, .int .u8 0, .int .u8 0, .int .u8 0, .int .u8 0, .int .u8 0, .int .u8 0, .int .u8 0, .int .u8 0, .int .u8 0, .int .u8 0, .int .u8 0, .int .u8 0, .int .u8 0, .int .u8 0, .int .u8 0, .int .u8 0] 32)).alloc (.cells #[.string s] 9)) (hK.below hK.1 HB.out)
    (strs_cells (zs := [s]) (by have h := heap_alloc_new (w.alloc (.cells #[.int .u8 0, .int .u8 0, .int .u8 0, .int .u8 0, .int .u8 0, .int .u8 0, .int .u8 0, .int .u8 0, .int .u8 0, .int .u8 0, .int .u8 0, .int .u8 0, .int .u8 0, .int .u8 0, .int .u8 0, .int .u8 0, .int .u8 0, .int .u8 0, .int .u8 0, .int .u8 0, .int .u8 0, .int .u8 0, .int .u8 0, .int .u8 0, .int .u8 0, .int .u8 0, .int .u8 0, .int .u8 0, .int .u8 0, .int .u8 0, .int .u8 0, .int .u8 0] 32)) (.cells #[.string s] 9); simpa using h) (by unfold maxLen; simp)) (by rw [total_two]; exact Nat.le_trans (Nat.add_le_add (show (⟨#[116, 114, 101, 101]⟩ : ByteArray).size ≤ 6 by decide) hs) (by omega)) (by simp))
  clear HB hK
  go_enter Tryz.func47, Tryz.ntmps47
  go_wp2_with fail
  refine HS.out.mono ?_
  rintro e w1 ⟨rfl, hB1⟩
  obtain ⟨cs, hcs, hcz⟩ := (HR.out.below hB1).at_
  have HB1 := Lib.hid (HR.out.below hB1).b
  have hd : S.shaL (S.bytesL (S.joinB (⟨#[116, 114, 101, 101]⟩ :: [s]))) = dg ⟨#[116, 114, 101, 101]⟩ s := rfl
  rw [hd]
  have Hz := Lib.hid (size37 _ (dg_len ⟨#[116, 114, 101, 101]⟩ s))
  have Hone := Lib.hid (S.ints_one .u8 (dg ⟨#[116, 114, 101, 101]⟩ s))
  have Hs := Lib.hid (show (S.ints .u8 (dg ⟨#[116, 114, 101, 101]⟩ s)).size = 32 by rw [S.ints_size, dg_len])
  obtain ⟨R, hRe⟩ : ∃ R, R = S.ints .u8 (dg ⟨#[116, 114, 101, 101]⟩ s) := ⟨_, rfl⟩
  rw [← hRe] at Hz Hone Hs ⊢
  have HRe := Lib.hid hRe
  clear hRe
  clear hB1 hd HS HR
  go_wp2_with (first | (refine wpList_store_rowTo rfl 32 _ _ rfl rfl w.heap.size R rfl rfl 32 cs hcs Hz.out (by rw [hcz, Hs.out]) Hone.out ?_))
  exact bodyPost_ret (v := .agg R) (results_cell_row (fr := (0, 0)) rfl _ _ w.heap.size 32 _ _ rfl (setRow_heap _ _ _ R 32 (0, 0) hcs) Tryz.underlying32 rfl Hz.out) rfl ⟨by rw [HRe.out], below_setRow HB1.out (Nat.le_refl _) R⟩
end Go.Proofs.YtdhaanaenklleaaGreatDoor
namespace Go.Proofs.YtdhaanaenklleaaGreatDoor
set_option linter.unusedVariables false
set_option linter.unusedSimpArgs false
open Go.ChangeShapes Go.WideShapes Go.ChangeAt Go.RowKit

/-- A value that was read early, and what was there. -/
structure AtW (w0 : World) (x v : Value) (w : World) : Prop where
  e : v = x
  bl : Below w0.heap.size w0 w
theorem AtW.st1 (w0 : World) (x : Value) : K3.St1 (AtW w0 x) := fun v w1 w2 h hB => ⟨h.e, h.bl.trans (hB.mono h.bl.size)⟩
/-- A copy of the entries. -/
def CloV (base : Nat) (l : List Ent) : Value → World → Prop := fun v w => w.ownsRow base 58 34 v l.length (LF entV l)
theorem CloV.st1 (base : Nat) (l : List Ent) : K3.St1 (CloV base l) := fun v w1 w2 h hB => gen_own_below h hB
/-- The store holds one tree more. -/
structure PutV (T : Nat → Prop) (b : Nat) (fb ft fc : List UInt8 → Option Value) (nb nt nc : Nat) (w0 : World) (base : Nat) (t : List UInt8) (l : List Ent) (v : Value) (w : World) : Prop where
  lt : ∀ q, T q → q < w.heap.size
  e : ∃ r, Sto T b fb (putF ft t r) fc nb nt nc w ∧ w.ownsRow base 58 34 r l.length (LF entV l) ∧ Kp T w0 w
theorem PutV.st1 (T : Nat → Prop) (b : Nat) (fb ft fc : List UInt8 → Option Value) (nb nt nc : Nat) (w0 : World) (base : Nat) (t : List UInt8) (l : List Ent) : K3.St1 (PutV T b fb ft fc nb nt nc w0 base t l) := fun v w1 w2 h hB => by
  obtain ⟨r, h1, h2, h3⟩ := h.e
  exact ⟨fun q hq => Nat.lt_of_lt_of_le (h.lt q hq) hB.size, r, h1.same (fun q hq => hB.block q (h.lt q hq)), gen_own_below h2 hB, h3.trans (Kp.of_below hB)⟩
theorem out_put {P : Program} {o : Oper} {ρ : Operand → Value} {w w' : World} {φ : Value → World → Prop} {mo xo vo : Operand} {t : TypeId} {val key : Value} {m : Nat} (ho : o.op = Op.mapUpdate t mo xo vo) (hm : ρ mo = .map (some m)) (hx : ρ xo = key) (hv : ρ vo = val)
    (hr : (Instr.mapUpdate t (.map (some m)) key val).run P w = .ok () w') (hφ : φ undef w') : K3.Out P o ρ w φ := by
  unfold K3.Out
  simp [execOp, ho, hm, hx, hv, hr, Result.andThen]
  exact hφ
theorem own_of_kept {w w' : World} {base e s : Nat} {v : Value} {n : Nat} {xs : List Value} (h : w.ownsRow base e s v n xs) (hk : ∀ q, base ≤ q ∧ q < w.heap.size → w'.heap[q]? = w.heap[q]?) : w'.ownsRow base e s v n xs := by
  obtain ⟨h1, h2⟩ := h
  refine ⟨h1, ?_⟩
  rcases h2 with h2 | ⟨g, cap, cur, rfl, hb, hg, rest⟩
  · exact .inl h2
  · exact .inr ⟨g, cap, cur, rfl, hb, (hk g ⟨hb, lt_of_block hg⟩).trans hg, rest⟩
set_option maxRecDepth 100000 in
set_option maxHeartbeats 4000000 in
theorem putTree8_ok {T : Nat → Prop} {b : Nat} {fb ft fc : List UInt8 → Option Value} {nb nt nc : Nat} {w : World} (k : Sto T b fb ft fc nb nt nc w) (hT : ∀ q, T q → 0 < q ∧ q < w.heap.size) (hK : S.KeysAt w) (hM : MaxAt w) (v : Value) (a : List Ent) (hv : LAt 34 entV w v a) (hz : ∀ x ∈ a, x.1.size ≤ 65536 ∧ x.2.2.1.length = 32) (hn : a.length ≤ 65536) (hts : (treeB a).size ≤ 1048576) (hnt : nt ≤ 1048576) (hg : goodT a = true) :
    Calls Tryz.prog 20 #[.pointer (some ⟨b, 0, none⟩), v] w fun e w' => e = .returned (.tuple #[.agg (bytV (tid (treeB a))).toArray, .int .i64 0]) ∧ ∃ r, Sto T b fb (putF ft (tid (treeB a)) r) fc nb (if (ft (tid (treeB a))).isSome = true then nt else nt + 1) nc w' ∧ w'.ownsRow w.heap.size 58 34 r a.length (LF entV a) ∧ Kp T w w' := by
  obtain ⟨s, hs⟩ : ∃ s, s = treeB a := ⟨_, rfl⟩
  rw [← hs] at hts ⊢
  obtain ⟨nt2, hnt2⟩ : ∃ q, q = (if (ft (tid s)).isSome = true then nt else nt + 1) := ⟨_, rfl⟩
  rw [← hnt2]
  have Hnt2 := Lib.hid hnt2
  clear hnt2
  have hrow : ∀ x ∈ a, entR x (entV x) := fun x hx => entR_of (by have := hz x hx; omega) (hz x hx).2
  have HR := Lib.hid (Res37.made w #[.int .u8 0, .int .u8 0, .int .u8 0, .int .u8 0, .int .u8 0, .int .u8 0, .int .u8 0, .int .u8 0, .int .u8 0, .int .u8 0, .int .u8 0, .int .u8 0, .int .u8 0, .int .u8 0, .int .u8 0, .int .u8 0, .int .u8 0, .int .u8 0, .int .u8 0, .int .u8 0, .int .u8 0, .int .u8 0, .int .u8 0, .int .u8 0, .int .u8 0, .int .u8 0, .int .u8 0, .int .u8 0, .int .u8 0, .int .u8 0, .int .u8 0, .int .u8 0] rfl)
  have hB0 := HR.out.b
  have hP := putTree_any v a (w.alloc (.cells #[.int .u8 0, .int .u8 0, .int .u8 0, .int .u8 0, .int .u8 0, .int .u8 0, .int .u8 0, .int .u8 0, .int .u8 0, .int .u8 0, .int .u8 0, .int .u8 0, .int .u8 0, .int .u8 0, .int .u8 0, .int .u8 0, .int .u8 0, .int .u8 0, .int .u8 0, .int .u8 0, .int .u8 0, .int .u8 0, .int .u8 0, .int .u8 0, .int .u8 0, .int .u8 0, .int .u8 0, .int .u8 0, .int .u8 0, .int .u8 0, .int .u8 0, .int .u8 0] 32)) (hM.below hB0) ((hv.rows hrow).below hB0) (fun x hx => (hz x hx).1) hn
  rw [putR_good hg, ← hs] at hP
  have HP := Lib.hid hP
  have HV := Lib.hid hv
  have HK := Lib.hid k
  have HT := Lib.hid hT
  have hKw := hK.below hK.1 hB0
  have HN := Lib.hid (fun w1 (h : Below (w.alloc (.cells #[.int .u8 0, .int .u8 0, .int .u8 0, .int .u8 0, .int .u8 0, .int .u8 0, .int .u8 0, .int .u8 0, .int .u8 0, .int .u8 0, .int .u8 0, .int .u8 0, .int .u8 0, .int .u8 0, .int .u8 0, .int .u8 0, .int .u8 0, .int .u8 0, .int .u8 0, .int .u8 0, .int .u8 0, .int .u8 0, .int .u8 0, .int .u8 0, .int .u8 0, .int .u8 0, .int .u8 0, .int .u8 0, .int .u8 0, .int .u8 0, .int .u8 0, .int .u8 0] 32)).heap.size (w.alloc (.cells #[.int .u8 0, .int .u8 0, .int .u8 0, .int .u8 0, .int .u8 0, .int .u8 0, .int .u8 0, .int .u8 0, .int .u8 0, .int .u8 0, .int .u8 0, .int .u8 0, .int .u8 0, .int .u8 0, .int .u8 0, .int .u8 0, .int .u8 0, .int .u8 0, .int .u8 0, .int .u8 0, .int .u8 0, .int .u8 0, .int .u8 0, .int .u8 0, .int .u8 0, .int .u8 0, .int .u8 0, .int .u8 0, .int .u8 0, .int .u8 0, .int .u8 0, .int .u8 0] 32)) w1) => name31_big s w1 (hKw.below (Nat.lt_of_lt_of_le hK.1 hB0.size) h) hts)
  have hri := byL_ints (dg ⟨#[116, 114, 101, 101]⟩ s) (dg_small _ _)
  have hkey := key37 (tid s) (by unfold tid; rw [byL_len, dg_len])
  have Hone := Lib.hid (S.ints_one .u8 (dg ⟨#[116, 114, 101, 101]⟩ s))
  have Hz := Lib.hid (size37 _ (dg_len ⟨#[116, 114, 101, 101]⟩ s))
  have Hs := Lib.hid (show (S.ints .u8 (dg ⟨#[116, 114, 101, 101]⟩ s)).size = 32 by rw [S.ints_size, dg_len])
  have HRi := Lib.hid (show S.ints .u8 (dg ⟨#[116, 114, 101, 101]⟩ s) = (bytV (tid s)).toArray from hri)
  rw [← HRi.out] at hkey ⊢
  have HKey := Lib.hid hkey
  have Hn := Lib.hid hn
  clear hri hkey hK hM hKw k hT hB0 hP hv hrow hz hg hs hts hn
  generalize S.ints .u8 (dg ⟨#[116, 114, 101, 101]⟩ s) = R at *
  go_enter Tryz.func20, Tryz.ntmps20
  go_wp2_with fail
  generalize w.alloc (.cells #[.int .u8 0, .int .u8 0, .int .u8 0, .int .u8 0, .int .u8 0, .int .u8 0, .int .u8 0, .int .u8 0, .int .u8 0, .int .u8 0, .int .u8 0, .int .u8 0, .int .u8 0, .int .u8 0, .int .u8 0, .int .u8 0, .int .u8 0, .int .u8 0, .int .u8 0, .int .u8 0, .int .u8 0, .int .u8 0, .int .u8 0, .int .u8 0, .int .u8 0, .int .u8 0, .int .u8 0, .int .u8 0, .int .u8 0, .int .u8 0, .int .u8 0, .int .u8 0] 32) = w1 at *
  refine HP.out.mono ?_
  rintro e wb ⟨rfl, hBb⟩
  have HNb := Lib.hid (HN.out wb hBb)
  have HRb := Lib.hid (HR.out.below hBb)
  clear hBb HN HP HR
  go_wp2_with fail
  refine HNb.out.mono ?_
  rintro e w2 ⟨rfl, hB⟩
  have HR2 := Lib.hid (HRb.out.below hB)
  clear hB HNb HRb
  go_upto_region 7 with (first | (refine wpList_store_rowTo rfl 32 (.tmp 8) (.tmp 22) rfl rfl w2.heap.size R rfl rfl 32 _ (heap_alloc_new w2 _) Hz.out (by rw [Hs.out]; rfl) Hone.out ?_))
  have hB4 := below_setRow ((Below.refl w2.heap.size w2).alloc (Nat.le_refl _) (.cells #[.int .u8 0, .int .u8 0, .int .u8 0, .int .u8 0, .int .u8 0, .int .u8 0, .int .u8 0, .int .u8 0, .int .u8 0, .int .u8 0, .int .u8 0, .int .u8 0, .int .u8 0, .int .u8 0, .int .u8 0, .int .u8 0, .int .u8 0, .int .u8 0, .int .u8 0, .int .u8 0, .int .u8 0, .int .u8 0, .int .u8 0, .int .u8 0, .int .u8 0, .int .u8 0, .int .u8 0, .int .u8 0, .int .u8 0, .int .u8 0, .int .u8 0, .int .u8 0] 32)) (g := w2.heap.size) (Nat.le_refl _) R
  have hG4 := setRow_heap (w2.alloc (.cells #[.int .u8 0, .int .u8 0, .int .u8 0, .int .u8 0, .int .u8 0, .int .u8 0, .int .u8 0, .int .u8 0, .int .u8 0, .int .u8 0, .int .u8 0, .int .u8 0, .int .u8 0, .int .u8 0, .int .u8 0, .int .u8 0, .int .u8 0, .int .u8 0, .int .u8 0, .int .u8 0, .int .u8 0, .int .u8 0, .int .u8 0, .int .u8 0, .int .u8 0, .int .u8 0, .int .u8 0, .int .u8 0, .int .u8 0, .int .u8 0, .int .u8 0, .int .u8 0] 32)) w2.heap.size _ R 32 (0, 0) (heap_alloc_new w2 _)
  generalize (w2.alloc (.cells #[.int .u8 0, .int .u8 0, .int .u8 0, .int .u8 0, .int .u8 0, .int .u8 0, .int .u8 0, .int .u8 0, .int .u8 0, .int .u8 0, .int .u8 0, .int .u8 0, .int .u8 0, .int .u8 0, .int .u8 0, .int .u8 0, .int .u8 0, .int .u8 0, .int .u8 0, .int .u8 0, .int .u8 0, .int .u8 0, .int .u8 0, .int .u8 0, .int .u8 0, .int .u8 0, .int .u8 0, .int .u8 0, .int .u8 0, .int .u8 0, .int .u8 0, .int .u8 0] 32)).setRow w2.heap.size R = w4 at *
  have hR4 := HR2.out.below hB4
  have hs2 := HR2.out.b.size
  have hs4 := hB4.size
  have HV4 := Lib.hid (HV.out.below hR4.b)
  have HBw := Lib.hid hR4.b
  have HK4 := Lib.hid (HK.out.same (w' := w4) (fun q hq => hR4.b.block q (HT.out q hq).2))
  have HR4 := Lib.hid hR4
  obtain ⟨m1, m2, m3, hb, hm1, hm2, hm3, hne, hTm⟩ := HK4.out.f
  have HL1 := Lib.hid (fun w' (hB : Below w4.heap.size w4 w') => show (loadVar 78 ⟨b, 1, none⟩).run Tryz.prog w' = .ok (.map (some m2)) w' from by
    have h := block_cell ((hB.block b (lt_of_block hb)).trans hb) 1
    simp [go_sem, h])
  have Hb := Lib.hid hb
  have Hm1 := Lib.hid hm1
  have Hm2 := Lib.hid hm2
  have Hm3 := Lib.hid hm3
  have Hne := Lib.hid hne
  have HTm := Lib.hid hTm
  have HG := Lib.hid (fun wx (hx : Below w4.heap.size w4 wx) => (hx.block _ (lt_of_block hG4)).trans hG4)
  have HL2 := Lib.hid (fun wx (hx : Below w4.heap.size w4 wx) => run_loadVar_row (P := Tryz.prog) wx w2.heap.size 32 32 R (0, 0) _ (HG.out wx hx) Tryz.underlying32 rfl Hz.out)
  have Hg := Lib.hid hG4
  have HC := Lib.hid (fun wx (hx : Below w4.heap.size w4 wx) => clone_any v a wx (HV4.out.below hx) Hn.out)
  have hd4 : Below w4.heap.size w4 w4.drew := (Below.refl _ _).drew
  have hwz : w.heap.size < w4.heap.size := by obtain ⟨cs, h1, h2⟩ := hR4.at_; exact lt_of_block h1
  clear hB4 hG4 hR4 hb hm1 hm2 hm3 hne hTm HR2
  have hRL : ∃ Rs : List (Value → World → Prop), Rs = [K3.PureV (.pointer (some ⟨b, 0, none⟩)),
      K3.PureV (.pointer (some ⟨b, 0, none⟩)),
      K3.PureV (.pointer (some ⟨b, 1, none⟩)),
      AtW w4 (.map (some m2)),
      K3.PureV (.agg R),
      K3.PureV (v),
      CloV (w.heap.size + 1) a,
      PutV T b fb ft fc nb nt2 nc w4 (w.heap.size + 1) (tid s) a] := ⟨_, rfl⟩
  obtain ⟨Rs, hRs⟩ := hRL
  refine K3.wp_region_rel2 0 (Nat.zero_le _) (K3.RL Rs) [2, 2, 2, 1, 2, 2, 1, 1] [1, 1, 1, 1, 1, 1, 1, 2] [[], [], [], [], [], [], [], [3, 6]] (by kernel_rfl) (by kernel_rfl) (K3.RL.st1 (by rw [hRs]; exact K3.st1_cons (K3.PureV.st1 _) (K3.st1_cons (K3.PureV.st1 _) (K3.st1_cons (K3.PureV.st1 _) (K3.st1_cons (AtW.st1 _ _) (K3.st1_cons (K3.PureV.st1 _) (K3.st1_cons (K3.PureV.st1 _) (K3.st1_cons (CloV.st1 _ _) (K3.st1_cons (PutV.st1 _ _ _ _ _ _ _ _ _ _ _ _) (K3.st1_nil)))))))))) (K3.RL.st2 (by rw [hRs]; exact K3.st2_cons (K3.PureV.st2 _ _ _) (K3.st2_cons (K3.PureV.st2 _ _ _) (K3.st2_cons (K3.PureV.st2 _ _ _) (K3.st2_skip (K3.st2_cons (K3.PureV.st2 _ _ _) (K3.st2_cons (K3.PureV.st2 _ _ _) (K3.st2_skip (K3.st2_skip (K3.st2_nil)))))))))) ?_ ?_ ?_
  · intro i o d hi hd
    have hmem := List.mem_of_getElem? hi
    simp only [List.mem_cons, List.not_mem_nil, or_false] at hmem
    rcases hmem with rfl | rfl | rfl | rfl | rfl | rfl | rfl | rfl <;> simp at hd <;> (subst hd; simp)
  · refine K3.rel_start (Φ := K3.Hop _ _ _ _ _ _ _) ?_
    refine K3.rel_cons (Φ := K3.Hop _ _ _ _ _ _ _) (k := 0) ?_ ?_
    · intro fa fw hfB hfN hfE hfk hft
      have k0 : fa.eval (.tmp 0) = .pointer (some ⟨b, 0, none⟩) := hft 0 (K3.mem_looks (by kernel_rfl)) (K3.noneed (by kernel_rfl))
      rw [hRs]
      refine K3.hop_plain rfl ?_
      refine K3.out_move rfl ?_
      exact ⟨k0, Below.refl _ _⟩
    refine K3.rel_cons (Φ := K3.Hop _ _ _ _ _ _ _) (k := 1) ?_ ?_
    · intro fa fw hfB hfN hfE hfk hft
      have k23 : fa.eval (.tmp 23) = (.pointer (some ⟨b, 0, none⟩)) := by have := hfk 0 (K3.mem_needs (by kernel_rfl)) _ rfl; rw [hRs] at this; exact this
      rw [hRs]
      refine K3.hop_plain rfl ?_
      have kc : ∀ v, fa.eval (.const v) = v := fun _ => rfl
      generalize fa.eval = ρ at *
      exact K3.out_run (v := .pointer (some ⟨b, 0, none⟩)) (w' := fw) (by simp [execOp, kc, k23, go_sem]) ⟨rfl, Below.refl _ _⟩
    refine K3.rel_cons (Φ := K3.Hop _ _ _ _ _ _ _) (k := 2) ?_ ?_
    · intro fa fw hfB hfN hfE hfk hft
      have k24 : fa.eval (.tmp 24) = (.pointer (some ⟨b, 0, none⟩)) := by have := hfk 1 (K3.mem_needs (by kernel_rfl)) _ rfl; rw [hRs] at this; exact this
      rw [hRs]
      refine K3.hop_plain rfl ?_
      have kc : ∀ v, fa.eval (.const v) = v := fun _ => rfl
      generalize fa.eval = ρ at *
      exact K3.out_run (v := .pointer (some ⟨b, 1, none⟩)) (w' := fw) (by simp [execOp, kc, k24, go_sem]) ⟨rfl, Below.refl _ _⟩
    refine K3.rel_cons (Φ := K3.Hop _ _ _ _ _ _ _) (k := 3) ?_ ?_
    · intro fa fw hfB hfN hfE hfk hft
      have hE : Below w4.drew.heap.size w4.drew fw := hfE (by kernel_rfl)
      have k25 : fa.eval (.tmp 25) = (.pointer (some ⟨b, 1, none⟩)) := by have := hfk 2 (K3.mem_needs (by kernel_rfl)) _ rfl; rw [hRs] at this; exact this
      rw [hRs]
      refine K3.hop_plain rfl ?_
      exact out_load3 rfl k25 (HL1.out fw (hd4.trans (hE.mono hd4.size))) ⟨⟨rfl, hd4.trans (hE.mono hd4.size)⟩, Below.refl _ _⟩
    refine K3.rel_cons (Φ := K3.Hop _ _ _ _ _ _ _) (k := 4) ?_ ?_
    · intro fa fw hfB hfN hfE hfk hft
      have hE : Below w4.drew.heap.size w4.drew fw := hfE (by kernel_rfl)
      have k8 : fa.eval (.tmp 8) = .pointer (some ⟨w2.heap.size, 0, none⟩) := hft 8 (K3.mem_looks (by kernel_rfl)) (K3.noneed (by kernel_rfl))
      rw [hRs]
      refine K3.hop_plain rfl ?_
      exact out_load3 rfl k8 (HL2.out fw (hd4.trans (hE.mono hd4.size))) ⟨rfl, Below.refl _ _⟩
    refine K3.rel_cons (Φ := K3.Hop _ _ _ _ _ _ _) (k := 5) ?_ ?_
    · intro fa fw hfB hfN hfE hfk hft
      have k1 : fa.eval (.tmp 1) = v := hft 1 (K3.mem_looks (by kernel_rfl)) (K3.noneed (by kernel_rfl))
      rw [hRs]
      refine K3.hop_plain rfl ?_
      refine K3.out_move rfl ?_
      exact ⟨k1, Below.refl _ _⟩
    refine K3.rel_cons (Φ := K3.Hop _ _ _ _ _ _ _) (k := 6) ?_ ?_
    · intro fa fw hfB hfN hfE hfk hft
      have hE : Below w4.drew.heap.size w4.drew fw := hfE (by kernel_rfl)
      have k28 : fa.eval (.tmp 28) = (v) := by have := hfk 5 (K3.mem_needs (by kernel_rfl)) _ rfl; rw [hRs] at this; exact this
      rw [hRs]
      refine K3.hop_plain rfl ?_
      have kf : fa.eval (.func 48) = .func (.func 48) #[] #[] := rfl
      have kc : ∀ v, fa.eval (.const v) = v := fun _ => rfl
      have hbl := hd4.trans (hE.mono hd4.size)
      have hbs := hbl.size
      refine K3.out_call (f := 48) (args := #[v]) (by generalize fa.eval = ρ at *; simp [execOp, k28, kf, kc, go_sem]) ?_
      refine (HC.out fw hbl).mono ?_
      rintro e wx ⟨r, rfl, h1, h2⟩
      exact ⟨r, rfl, World.ownsRow.mono h1 (by omega), h2⟩
    refine K3.rel_cons (Φ := K3.Hop _ _ _ _ _ _ _) (k := 7) ?_ ?_
    · intro fa fw hfB hfN hfE hfk hft
      have k26 : (AtW w4 (.map (some m2))) (fa.eval (.tmp 26)) fw := by have := hfk 3 (K3.mem_needs (by kernel_rfl)) _ rfl; rw [hRs] at this; exact this
      have k27 : fa.eval (.tmp 27) = (.agg R) := by have := hfk 4 (K3.mem_needs (by kernel_rfl)) _ rfl; rw [hRs] at this; exact this
      have k29 : (CloV (w.heap.size + 1) a) (fa.eval (.tmp 29)) fw := by have := hfk 6 (K3.mem_needs (by kernel_rfl)) _ rfl; rw [hRs] at this; exact this
      rw [hRs]
      refine K3.hop_plain rfl ?_
      obtain ⟨hv26, hbl⟩ := k26
      have hs5 := hbl.size
      obtain ⟨w6, hrun, hmp6, hg6⟩ := (Hm2.out.of_block (hbl.block _ Hm2.out.lt)).put keyed37 Tryz.underlying78 (by unfold maxLen; omega) strKeys (key := .agg R) (val := fa.eval (.tmp 29)) (x := tid s) HKey.out
      have hT := HT.out
      have t1 := (hT _ HTm.out.1).2
      have t2 := (hT _ HTm.out.2.1).2
      have t3 := (hT _ HTm.out.2.2.1).2
      have t4 := (hT _ HTm.out.2.2.2).2
      have hw4 := HBw.out.size
      have hk6 : ∀ q, q < fw.heap.size → q ≠ m2 → w6.heap[q]? = fw.heap[q]? := fun q hq hne => hg6.block q hq (fun e => by injection e with e; exact hne e)
      have hKp : Kp T w4 w6 := ⟨hg6.os.trans hbl.os, hg6.tape.trans hbl.tape, hg6.output.trans hbl.output, Nat.le_trans hbl.size hg6.size, fun q hq hn => (hk6 q (Nat.lt_of_lt_of_le hq hbl.size) (fun e => hn (e ▸ HTm.out.2.2.1))).trans (hbl.block q hq)⟩
      rw [← Hnt2.out] at hmp6
      have hSt : Sto T b fb (putF ft (tid s) (fa.eval (.tmp 29))) fc nb nt2 nc w6 :=
        ⟨m1, m2, m3, (hk6 b (by omega) Hne.out.2.1).trans ((hbl.block _ (by omega)).trans Hb.out), (Hm1.out.of_block (hbl.block _ (by omega))).of_block (hk6 m1 (by omega) Hne.out.2.2.2.1), hmp6, (Hm3.out.of_block (hbl.block _ (by omega))).of_block (hk6 m3 (by omega) (Ne.symm Hne.out.2.2.2.2.2)), Hne.out, HTm.out⟩
      have hrw : w6.ownsRow (w.heap.size + 1) 58 34 (fa.eval (.tmp 29)) a.length (LF entV a) := own_of_kept k29 (fun q hq => hk6 q hq.2 (by omega))
      exact out_put rfl hv26 k27 rfl hrun ⟨⟨fun q hq => by have := (hT q hq).2; have := hg6.size; omega, _, hSt, hrw, hKp⟩, (Below.refl 0 fw).grown hg6 (Nat.zero_le _) (fun q hq => Nat.zero_le _)⟩
    exact K3.rel_nil
  · intro fa fw hfB hfy hff hfs hfd
    rw [hRs] at hfy
    have k7 := hfy 7 _ rfl (K3.unkilled (by decide))
    have e := K3.rel_frame [23, 24, 25, 26, 27, 28, 29] (by kernel_rfl) hff hfs hfd
    simp only [List.foldl] at e
    clear hfy hff hfs hfd
    generalize fa.tmps.getD 23 undef = x23 at e
    generalize fa.tmps.getD 24 undef = x24 at e
    generalize fa.tmps.getD 25 undef = x25 at e
    generalize fa.tmps.getD 26 undef = x26 at e
    generalize fa.tmps.getD 27 undef = x27 at e
    generalize fa.tmps.getD 28 undef = x28 at e
    generalize fa.tmps.getD 29 undef = x29 at e
    simp [List.setIfInBounds_toArray, List.set_cons_succ, List.set_cons_zero] at e
    subst e
    obtain ⟨hlt, r, hSto, hRow, hKp⟩ := k7
    have hR5 : ∃ cs, fw.heap[w.heap.size]? = some (.cells cs 32 (0, 0)) ∧ cs.size = 32 := by
      obtain ⟨cs, h1, h2⟩ := HR4.out.at_
      exact ⟨cs, (hKp.block _ (lt_of_block h1) (fun x => by have := (HT.out _ x).2; omega)).trans h1, h2⟩
    obtain ⟨cs, hcs, hcz⟩ := hR5
    have hG6 : fw.heap[w2.heap.size]? = some (.cells R 32 (0, 0)) := (hKp.block _ (lt_of_block Hg.out) (fun x => by have := (HT.out _ x).2; omega)).trans Hg.out
    have HK6 := Lib.hid hSto
    have HRow := Lib.hid hRow
    have HKp := Lib.hid ((Kp.of_below HBw.out).trans hKp)
    have HCs := Lib.hid hcs
    have HG6 := Lib.hid hG6
    have hcz2 : cs.size = R.size := by rw [hcz, Hs.out]
    clear hSto hRow hKp hcs hG6 hcz hlt hfB
    go_wp2_with (first | (refine wpList_load_row rfl 32 (.tmp 8) rfl w2.heap.size rfl 32 R (0, 0) _ HG6.out Tryz.underlying32 rfl Hz.out ?_) | (refine wpList_store_rowTo rfl 32 (.tmp 4) (.tmp 30) rfl rfl w.heap.size R rfl rfl 32 cs HCs.out Hz.out hcz2 Hone.out ?_))
    have hfin := setRow_heap fw w.heap.size cs R 32 (0, 0) HCs.out
    have hkp := HKp.out
    refine rid0 rfl hfin Hz.out rfl rfl rfl ⟨rfl, r, HK6.out.same (fun q hq => setRow_other _ _ _ _ (by have := (HT.out q hq).2; omega)), ?_, ?_⟩
    · exact World.ownsRow.mono (own_of_kept HRow.out (fun q hq => setRow_other _ _ _ _ (by omega))) (Nat.le_succ _)
    · exact ⟨hkp.os, hkp.tape, hkp.output, by simp [World.setRow]; exact hkp.size, fun q hq hn => (setRow_other _ _ _ _ (by omega)).trans (hkp.block q hq hn)⟩
end Go.Proofs.YtdhaanaenklleaaGreatDoor
