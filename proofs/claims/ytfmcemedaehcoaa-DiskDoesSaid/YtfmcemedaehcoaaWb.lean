/- Walks: a device that is new; the power's coming back; the fuse; reading. -/
import Derived.Test.YtfmcemedaehcoaaWa
import Derived.Carry
import Derived.Laws.Cover3
namespace Go.Proofs.Ytfmcemedaehcoaa
set_option linter.unusedVariables false
set_option linter.unusedSimpArgs false
open Go.ChangeShapes Go.WideShapes Go.ChangeAt Go.RowKit

theorem set_other (w : World) (b i k : Nat) (v : Value) (h : k ≠ b) : (w.setCell ⟨b, i, none⟩ v).heap[k]? = w.heap[k]? := Below.heap_setCell _ _ _ _ h
theorem Kept.setCell {S : Nat → Prop} {w w' : World} (h : Kept S w w') {b : Nat} (hb : S b ∨ w.heap.size ≤ b) (i : Nat) (v : Value) : Kept S w (w'.setCell ⟨b, i, none⟩ v) :=
  ⟨h.os, h.tape, h.output, by simp [World.setCell]; exact h.size, fun k hk hs => (set_other _ _ _ _ _ (fun e => by
    rcases hb with hb | hb
    · exact hs (e ▸ hb)
    · omega)).trans (h.block k hk hs)⟩
def NewS (n k : Nat) : Prop := n ≤ k ∧ k < n + 2
def newH (room : Int) : Hd := ⟨min (max room 0) 1048576, 0, false, 0, 0, false⟩
theorem map_made (w : World) : MapOk w.heap.size [] (w.alloc (.map #[] 0)) :=
  ⟨.map [], World.ownsMap_made w Try.prog 9 ptrR, rfl, fun x _ z => rfl⟩
theorem new_dev (room : Int) (w : World) : Dev (NewS w.heap.size) (w.heap.size + 1) (newH room) [] ((w.alloc (.map #[] 0)).alloc (.cells (hdV (newH room) w.heap.size) 63)) := by
  have h := heap_alloc_new (w.alloc (.map #[] 0)) (.cells (hdV (newH room) w.heap.size) 63)
  have e : (w.alloc (.map #[] 0)).heap.size = w.heap.size + 1 := by simp
  rw [e] at h
  refine ⟨⟨w.heap.size, h, (map_made w).of_block ?_, by omega, fun f hf => by (cases hf), ⟨by omega, by omega⟩, ⟨by omega, by omega⟩⟩, fun f hf => by (cases hf), List.nodup_nil, fun f hf => by (cases hf), fun f hf => by (cases hf), fun f hf => by (cases hf)⟩
  exact ((Below.refl _ (w.alloc (.map #[] 0))).alloc (Nat.le_refl _) _).block _ (by rw [e]; omega)
set_option maxRecDepth 100000 in
theorem new_any (room : Int) (w : World) : Calls Try.prog 12 #[.int .i64 room] w fun e w' => e = .returned (.pointer (some ⟨w.heap.size + 1, 0, none⟩)) ∧ Dev (NewS w.heap.size) (w.heap.size + 1) (newH room) [] w' ∧ Below w.heap.size w w' ∧ w'.heap.size = w.heap.size + 2 := by
  have hmm := @run_makeMap Try.prog
  have HD := Lib.hid (new_dev room w)
  have HB := Lib.hid (((Below.refl _ w).alloc (Nat.le_refl _) (.map #[] 0)).alloc (by simp) (.cells (hdV (newH room) w.heap.size) 63))
  have Hsz : Hid (((w.alloc (.map #[] 0)).alloc (.cells (hdV (newH room) w.heap.size) 63)).heap.size = w.heap.size + 2) := Lib.hid (by simp)
  obtain ⟨r, hr⟩ : ∃ r, r = (newH room).room := ⟨_, rfl⟩
  have hv : hdV (newH room) w.heap.size = #[.int .i64 r, .map (some w.heap.size), .int .i64 0, .bool false, .int .i64 0, .int .i64 0, .bool false] := by rw [hr]; rfl
  rw [hv] at HD HB Hsz
  have hr2 : r = min (max room 0) 1048576 := hr
  clear hv hr
  generalize newH room = nh at *
  rcases (by omega : room < 0 ∨ (0 ≤ room ∧ room ≤ 1048576) ∨ 1048576 < room) with h | ⟨h, h2⟩ | h
  · obtain rfl : r = 0 := by omega
    clear hr2
    have h3 : ¬ 0 ≤ room := by omega
    go_enter Try.func12, Try.ntmps12
    go_wp2_with fail
    go_ret
    exact ⟨rfl, HD.out, HB.out, Hsz.out⟩
  · obtain rfl : r = room := by omega
    clear hr2
    go_enter Try.func12, Try.ntmps12
    go_wp2_with fail
    go_ret
    exact ⟨rfl, HD.out, HB.out, Hsz.out⟩
  · obtain rfl : r = 1048576 := by omega
    clear hr2
    have h3 : 0 ≤ room := by omega
    have h4 : ¬ room ≤ 1048576 := by omega
    go_enter Try.func12, Try.ntmps12
    go_wp2_with fail
    go_ret
    exact ⟨rfl, HD.out, HB.out, Hsz.out⟩
set_option maxRecDepth 100000 in
theorem on_any {S : Nat → Prop} {b : Nat} {h : Hd} {L : List Fl} {w : World} (d : Dev S b h L w) : Calls Try.prog 22 #[.pointer (some ⟨b, 0, none⟩)] w fun e w' => e = .returned (.tuple #[]) ∧ Dev S b { h with down := false } L w' ∧ Kept S w w' ∧ w'.heap.size = w.heap.size := by
  obtain ⟨room, acts, down, left, keep, torn⟩ := h
  have HD := Lib.hid d
  obtain ⟨mb, hb, _, _, _, hS, _⟩ := d.f
  have c3 : w.cell? ⟨b, 3, none⟩ = some (.bool down) := block_cell hb 3
  have f3 := block_free hb 3
  have HE : Hid (Dev S b ⟨room, acts, false, left, keep, torn⟩ L (w.setCell ⟨b, 3, none⟩ (.bool false))) := Lib.hid (d.setH (fun mb hb => by
    have := block_set (i := 3) (u := .bool false) hb
    exact this) (fun k _ hk => set_other _ _ _ _ _ hk))
  have HK := Lib.hid ((Kept.refl S w).setCell (.inl hS) 3 (.bool false))
  have HZ : Hid ((w.setCell ⟨b, 3, none⟩ (.bool false)).heap.size = w.heap.size) := Lib.hid (by simp [World.setCell])
  clear d hb hS
  go_enter Try.func22, Try.ntmps22
  go_wp2_with fail
  exact bodyPost_end (v := .tuple #[]) (by simp [results, Try.results22]) rfl ⟨rfl, HE.out, HK.out, HZ.out⟩
set_option maxRecDepth 100000 in
theorem arm_any {S : Nat → Prop} {b : Nat} {h : Hd} {L : List Fl} {w : World} (d : Dev S b h L w) (n k : Int) (torn : Bool) : Calls Try.prog 26 #[.pointer (some ⟨b, 0, none⟩), .int .i64 n, .int .i64 k, .bool torn] w fun e w' => e = .returned (.tuple #[]) ∧ Dev S b { h with left := max n 0, keep := k, torn := torn } L w' ∧ Kept S w w' ∧ w'.heap.size = w.heap.size := by
  obtain ⟨room, acts, down, left, keep, torn0⟩ := h
  obtain ⟨mb, hb, _, _, _, hS, _⟩ := d.f
  have c4 : w.cell? ⟨b, 4, none⟩ = some (.int .i64 left) := block_cell hb 4
  have c5 : w.cell? ⟨b, 5, none⟩ = some (.int .i64 keep) := block_cell hb 5
  have c6 : w.cell? ⟨b, 6, none⟩ = some (.bool torn0) := block_cell hb 6
  have f4 := block_free hb 4
  have f5 := block_free hb 5
  have f6 := block_free hb 6
  have HE : Hid (Dev S b ⟨room, acts, down, max n 0, k, torn⟩ L (((w.setCell ⟨b, 4, none⟩ (.int .i64 (max n 0))).setCell ⟨b, 5, none⟩ (.int .i64 k)).setCell ⟨b, 6, none⟩ (.bool torn))) := Lib.hid (d.setH (fun mb hb => by
    have h1 := block_set (i := 4) (u := .int .i64 (max n 0)) hb
    have h2 := block_set (i := 5) (u := .int .i64 k) h1
    have h3 := block_set (i := 6) (u := .bool torn) h2
    exact h3) (fun k _ hk => by rw [set_other _ _ _ _ _ hk, set_other _ _ _ _ _ hk, set_other _ _ _ _ _ hk]))
  have HK := Lib.hid ((((Kept.refl S w).setCell (.inl hS) 4 (.int .i64 (max n 0))).setCell (.inl hS) 5 (.int .i64 k)).setCell (.inl hS) 6 (.bool torn))
  have HZ : Hid ((((w.setCell ⟨b, 4, none⟩ (.int .i64 (max n 0))).setCell ⟨b, 5, none⟩ (.int .i64 k)).setCell ⟨b, 6, none⟩ (.bool torn)).heap.size = w.heap.size) := Lib.hid (by simp [World.setCell])
  clear d hb hS
  by_cases hn : 0 ≤ n
  · rw [Int.max_eq_left hn] at HE HK HZ ⊢
    go_enter Try.func26, Try.ntmps26
    go_wp2_with fail
    exact bodyPost_end (v := .tuple #[]) (by simp [results, Try.results26]) rfl ⟨rfl, HE.out, HK.out, HZ.out⟩
  · rw [Int.max_eq_right (by omega)] at HE HK HZ ⊢
    go_enter Try.func26, Try.ntmps26
    go_wp2_with fail
    exact bodyPost_end (v := .tuple #[]) (by simp [results, Try.results26]) rfl ⟨rfl, HE.out, HK.out, HZ.out⟩
set_option maxRecDepth 100000 in
theorem acts_any {S : Nat → Prop} {b : Nat} {h : Hd} {L : List Fl} {w : World} (d : Dev S b h L w) : Calls Try.prog 15 #[.pointer (some ⟨b, 0, none⟩)] w fun e w' => e = .returned (.int .i64 h.acts) ∧ w = w' := by
  obtain ⟨room, acts, down, left, keep, torn⟩ := h
  obtain ⟨mb, hb, _⟩ := d.f
  have c2 : w.cell? ⟨b, 2, none⟩ = some (.int .i64 acts) := block_cell hb 2
  clear d hb
  go_enter Try.func15, Try.ntmps15
  go_wp2_with fail
  go_ret
  exact ⟨rfl, rfl⟩
set_option maxRecDepth 100000 in
theorem down_any {S : Nat → Prop} {b : Nat} {h : Hd} {L : List Fl} {w : World} (d : Dev S b h L w) : Calls Try.prog 16 #[.pointer (some ⟨b, 0, none⟩)] w fun e w' => e = .returned (.bool h.down) ∧ w = w' := by
  obtain ⟨room, acts, down, left, keep, torn⟩ := h
  obtain ⟨mb, hb, _⟩ := d.f
  have c3 : w.cell? ⟨b, 3, none⟩ = some (.bool down) := block_cell hb 3
  clear d hb
  go_enter Try.func16, Try.ntmps16
  go_wp2_with fail
  go_ret
  exact ⟨rfl, rfl⟩
theorem own_nil {w : World} {B : Nat} : w.ownsRow B 5 1 (.slice none 0 0) 0 (LF bV []) := ⟨by simp [LF], .inl ⟨rfl, rfl⟩⟩
theorem wpList_append_run {t : TypeId} {ops : Array Oper} {rest : List Oper} {o : Oper} {a : Act} {w w' : World} {v u v' : Value} {Q : Exit → Act → World → Prop} (hgd : o.guard = none) (s x : Operand)
    (ho : o.op = .call { callee := .builtin .append, args := #[s, x], argTypes := #[t, t] }) (hty : o.type = t) (hs : a.eval s = v) (hx : a.eval x = u) (hr : (Builtin.append_ #[t, t] t #[v, u]).run Try.prog w = .ok v' w')
    (h : wpList Try.prog ops Q rest (a.put o.dst v') w') : wpList Try.prog ops Q (o :: rest) a w := by
  refine wpList_plain hgd fun K hK => ?_
  unfold Oper.wp execOp
  simp only [ho, hty, resolve, invoke, builtin, Sem.run_bind, Sem.run_pure, Result.andThen_ok, List.map_toArray, List.map_cons, List.map_nil, hs, hx]
  rw [hr]
  exact hK _ _ h
theorem eq_nil (p : Option Addr) (n c : Nat) (w : World) : (binOp .eql 29 (.slice p n c) (.slice none 0 0)).run Try.prog w = .ok (.bool p.isNone) w := by
  simp [binOp, go_sem, run_equal_slice_nil w 29 5 p n c Try.underlying29]
set_option maxRecDepth 100000 in
theorem clone_any (v : Value) (l : List UInt8) (w : World) (hv : w.ownsRow 0 5 1 v l.length (LF bV l)) (hl : l.length ≤ 16777216) : Calls Try.prog 41 #[v] w fun e w' => ∃ v', e = .returned v' ∧ w'.ownsRow w.heap.size 5 1 v' l.length (LF bV l) ∧ Below w.heap.size w w' := by
  have HL := Lib.hid (LAt.own (n := 1) (fl := bV) (fun x _ => bV_len x) hv)
  rcases hv.2 with ⟨rfl, h0⟩ | ⟨g, cap, cur, rfl, rest⟩
  · obtain rfl : l = [] := List.eq_nil_of_length_eq_zero h0
    clear hv
    have hnil : ∀ w1, (binOp .eql 29 (.slice none 0 0) (.slice none 0 0)).run Try.prog w1 = .ok (.bool true) w1 := fun w1 => eq_nil none 0 0 w1
    go_enter Try.func41, Try.ntmps41
    go_wp2_with fail
    go_ret
    exact ⟨_, rfl, own_nil, Below.refl _ _⟩
  · clear hv rest
    have HB := Lib.hid ((Below.refl _ w).alloc (Nat.le_refl _) (.cells #[] 5))
    obtain ⟨v', w', hr, ho, hB⟩ := run_append_first_gen eltB (w.alloc (.cells #[] 5)) w.heap.size w.heap.size (.slice (some ⟨g, 0, none⟩) l.length cap) l (heap_alloc_new w _) (Nat.le_refl _) (HL.out.below HB.out) (by omega) HB.out.size
    have HO := Lib.hid ho
    have HB2 := Lib.hid (HB.out.trans (hB.mono HB.out.size))
    clear ho hB
    have hnil : ∀ w1, (binOp .eql 29 (.slice (some ⟨g, 0, none⟩) l.length cap) (.slice none 0 0)).run Try.prog w1 = .ok (.bool false) w1 := fun w1 => eq_nil _ _ _ w1
    go_enter Try.func41, Try.ntmps41
    go_wp2_with (first | (at_builtin; go_must (refine wpList_append_run rfl (.tmp 5) (.tmp 6) rfl rfl rfl rfl hr ?_)))
    go_ret
    exact ⟨_, rfl, HO.out, HB2.out⟩
theorem findE_ok {h : Hd} {L : List Fl} {x : ByteArray} (he : findE h L x = 0) : readyE h x = 0 ∧ ∃ f, look L x = some f ∧ findP h L x = .pointer (some ⟨f.B, 0, none⟩) := by
  unfold findE at he
  by_cases h1 : readyE h x = 0
  · rw [if_neg (by rw [h1]; decide)] at he
    cases hl : look L x with
    | none => rw [hl] at he; cases he
    | some f => exact ⟨h1, f, rfl, by unfold findP; rw [if_neg (by rw [h1]; decide), hl]; rfl⟩
  · rw [if_pos h1] at he; exact absurd he h1
theorem row_shape {w : World} {f : Fl} (h : Fok w f) : ∃ p c, f.v = .slice p f.d.length c := by
  rcases h.row.2 with ⟨h1, h2⟩ | ⟨g, cap, cur, h1, _⟩
  · exact ⟨none, 0, by rw [h1, h2]⟩
  · exact ⟨_, cap, h1⟩
set_option maxRecDepth 100000 in
theorem read_ok {S : Nat → Prop} {b : Nat} {h : Hd} {L : List Fl} {w : World} (d : Dev S b h L w) (hd : ∀ f ∈ L, f.d.length ≤ 16777216) (x : ByteArray) (he : findE h L x = 0) : Calls Try.prog 23 #[.pointer (some ⟨b, 0, none⟩), .string x] w fun e w' => ∃ v' f, e = .returned (.tuple #[v', .int .i64 0]) ∧ Below w.heap.size w w' ∧ look L x = some f ∧ w'.ownsRow w.heap.size 5 1 v' f.d.length (LF bV f.d) := by
  have HF := Lib.hid (find_any d x)
  obtain ⟨_, f, hl, hp⟩ := findE_ok he
  rw [hp, he] at HF
  have hfo := d.fo f (look_some hl).1
  have HC := Lib.hid (clone_any f.v f.d w hfo.row (hd f (look_some hl).1))
  have c0 : w.cell? ⟨f.B, 0, none⟩ = some f.v := block_cell hfo.box 0
  have Hl := Lib.hid hl
  obtain ⟨pv, cv, hv⟩ := row_shape hfo
  rw [hv] at c0 HC
  clear hl hp hfo he d hv
  go_enter Try.func23, Try.ntmps23
  go_wp2_with fail
  refine HF.out.mono ?_
  rintro e1 w1 ⟨rfl, rfl⟩
  go_wp2_with fail
  refine HC.out.mono ?_
  rintro e1 w1 ⟨v', rfl, ho, hB⟩
  have HO := Lib.hid ho
  have HB := Lib.hid hB
  clear ho hB
  go_wp2_with fail
  go_ret2
  exact ⟨v', f, rfl, HB.out, Hl.out, HO.out⟩
set_option maxRecDepth 100000 in
theorem read_err {S : Nat → Prop} {b : Nat} {h : Hd} {L : List Fl} {w : World} (d : Dev S b h L w) (x : ByteArray) (he : findE h L x ≠ 0) : Calls Try.prog 23 #[.pointer (some ⟨b, 0, none⟩), .string x] w fun e w' => e = .returned (.tuple #[.slice none 0 0, .int .i64 (findE h L x)]) ∧ w = w' := by
  have HF := Lib.hid (find_any d x)
  generalize findE h L x = r at *
  generalize findP h L x = p at *
  have hrb : (r != 0) = true := by simpa using he
  have hrc : (r == 0) = false := by simpa using he
  clear he d
  go_enter Try.func23, Try.ntmps23
  go_wp2_with fail
  refine HF.out.mono ?_
  rintro e1 w1 ⟨rfl, rfl⟩
  go_wp2_with fail
  go_ret2
  exact ⟨rfl, rfl⟩
end Go.Proofs.Ytfmcemedaehcoaa
