/- Walks: all names, in order. -/
import Derived.Test.YtfmcemedaehcoaaWm
import Derived.Test.YtfmcemedaehcoaaSh
import Derived.Sort.OwnSorted
namespace Go.Proofs.Ytfmcemedaehcoaa
set_option linter.unusedVariables false
set_option linter.unusedSimpArgs false
open Go.ChangeShapes Go.WideShapes Go.ChangeAt Go.RowKit Go.ChangeMaps Go.Sort

def sV (s : ByteArray) : List Value := [Value.string s]
def nmL (s : ByteArray) : List UInt8 := s.data.toList
theorem enc_nm (ns : List ByteArray) : LF sV ns = (ns.map nmL).map encStr := by
  induction ns with
  | nil => rfl
  | cons s r ih =>
    rw [List.map_cons, List.map_cons, ← ih]
    rfl
theorem rowS_of {w w' : World} {base : Nat} {v : Value} {n : Nat} {xs : List Value} (h : w.ownsRow base 9 1 v n xs) (e : ∀ g, v.ownBlock = some g → w'.heap[g]? = w.heap[g]?) : w'.ownsRow base 9 1 v n xs := by
  refine ⟨h.1, ?_⟩
  rcases h.2 with h1 | ⟨g, cap, cur, hv, hb, hh, rest⟩
  · exact .inl h1
  · exact .inr ⟨g, cap, cur, hv, hb, (e g (by rw [hv]; rfl)).trans hh, rest⟩
def seen (left : Lit → Bool) (L : List Fl) : List Fl := L.filter (fun f => !left (keyL f.nm))
theorem seen_skip {left : Lit → Bool} {x : ByteArray} : ∀ {L : List Fl}, (∀ f ∈ L, f.nm ≠ x) → seen (strike left (keyL x)) L = seen left L := fun {L} h => by
  unfold seen
  refine List.filter_congr fun f hf => ?_
  rw [strike_other (h f hf)]
theorem seen_step {left : Lit → Bool} {f : Fl} : ∀ {L : List Fl}, (L.map Fl.nm).Nodup → f ∈ L → left (keyL f.nm) = true → (seen (strike left (keyL f.nm)) L).Perm (f :: seen left L)
  | g :: L, hn, hf, hl => by
    rw [List.map_cons, List.nodup_cons] at hn
    rcases List.mem_cons.1 hf with e | hf2
    · subst e
      have h1 := seen_skip (left := left) (x := f.nm) (L := L) (fun g hg e => hn.1 (e ▸ List.mem_map_of_mem hg))
      unfold seen at h1 ⊢
      rw [List.filter_cons, List.filter_cons, strike_self, hl, if_pos (by decide), if_neg (by decide), h1]
    · have hne : g.nm ≠ f.nm := fun e => hn.1 (e ▸ List.mem_map_of_mem hf2)
      have h1 := seen_step hn.2 hf2 hl
      unfold seen at h1 ⊢
      rw [List.filter_cons, List.filter_cons, strike_other hne]
      by_cases hg : (!left (keyL g.nm)) = true
      · rw [if_pos hg, if_pos hg]
        exact (h1.cons g).trans (List.Perm.swap f g _)
      · rw [if_neg hg, if_neg hg]
        exact h1
theorem seen_start {left : Lit → Bool} {L : List Fl} (h : ∀ f ∈ L, left (keyL f.nm) = true) : seen left L = [] := by
  unfold seen
  exact List.filter_eq_nil_iff.2 fun f hf => by rw [h f hf]; decide
theorem seen_end {left : Lit → Bool} {L : List Fl} (h : ∀ kl, left kl = false) : seen left L = L := by
  unfold seen
  exact List.filter_eq_self.2 fun f hf => by rw [h]; rfl
/-- What Names answers. -/
structure NamesR (w : World) (L : List Fl) (e : Ending) (w' : World) : Prop where
  e : ∃ (v : Value) (ss : List (List UInt8)), e = .returned v ∧ ss.Perm (L.map fun f => nmL f.nm) ∧ w'.ownsRow w.heap.size 9 1 v L.length ((ss.mergeSort fun x y => decide (x ≤ y)).map encStr)
  b : Below w.heap.size w w'
set_option maxRecDepth 100000 in
set_option maxHeartbeats 1000000 in
theorem names_any {S : Nat → Prop} {b : Nat} {h : Hd} {L : List Fl} {w : World} (d : Dev S b h L w) (hLn : L.length ≤ 1048576) : Calls Try.prog 20 #[.pointer (some ⟨b, 0, none⟩)] w (NamesR w L) := by
  have HD := Lib.hid d
  obtain ⟨mb, hb, hm, _⟩ := d.f
  obtain ⟨D, hown, hsz, hD⟩ := hm.own
  have HDk := Lib.hid (show DOk D L from hD)
  have c1 : w.cell? ⟨b, 1, none⟩ = some (.map (some mb)) := block_cell hb 1
  have hlen := hown.len Try.underlying59 3
  rw [hsz] at hlen
  have Hown := Lib.hid hown
  have Hb := Lib.hid hb
  have Hm := Lib.hid hm
  have Hsz := Lib.hid hsz
  have Hst := Lib.hid (seen_start (left := Maps.has D) (L := L) (fun f hf => (show DOk D L from hD).has d.nm hf (d.n32 f hf)))
  obtain ⟨i0, z0, hi, hz0, hz1, hz2, _⟩ := eltS.inf
  clear d hb hm hsz hD hown
  go_enter Try.func20, Try.ntmps20
  go_wp2_with (first | (at_make; refine wpList_make_own _ rfl _ _ 38 rfl w.heap.size 9 i0 z0 1 Try.underlying38 hi hz0 hz1 .i64 .i64 _ L.length rfl rfl rfl (by rw [hz2]; omega) (by unfold maxLen; omega) (Nat.le_refl _) ?_; intro w1 ho1 hg1; have Ho1 := Lib.hid ho1; have hB1 : Below w.heap.size w w1 := ⟨hg1.os, hg1.tape, hg1.output, hg1.size, fun k hk => hg1.block k hk (by simp)⟩; have HB1 := Lib.hid hB1; have c2 : w1.cell? ⟨b, 1, none⟩ = some (.map (some mb)) := block_cell ((hB1.block b (lt_of_block Hb.out)).trans Hb.out) 1; have Hown1 := Lib.hid (ownsMap_of Hown.out (hB1.block mb Hm.out.lt)); have hws : w.heap.size < w1.heap.size := (ho1.lt w.heap.size rfl).2; clear ho1 hg1 hB1) | (at_range; refine wpList_range_own _ rfl _ 59 rfl 9 64 key9 Try.underlying59 ptrR mb L.length D rfl Hown1.out ?_; intro w0 hrg0 hg0 hs0))
  go_frame
  go_loopg [3] (Maps.size D) (fun g fv wr => ∃ (left : Lit → Bool) (ns : List ByteArray), wr.ranges Try.prog 9 ptrR mb w1.heap.size L.length D left g ∧ wr.ownsRow w.heap.size 9 1 fv ns.length (LF sV ns) ∧ ns.Perm ((seen left L).map Fl.nm) ∧ Below w.heap.size w wr)
  case atStart => exact ⟨_, [], hrg0, rowS_of Ho1.out (fun g hg => hg0.block g (Ho1.out.lt g hg).2 (by simp)), by rw [Hst.out]; exact List.Perm.nil, HB1.out.grown hg0 HB1.out.size (fun k hk => by simp at hk)⟩
  case round =>
    obtain ⟨left, ns, hrg, ho, hpm, hB⟩ := hrel
    go_wp2_with (first | (at_next; refine wpList_next_ranges _ rfl _ rfl 9 key9 ptrR Value.string ptrV invK9 invV9 mb w1.heap.size L.length _ _ _ rfl hrg ?_ ?_))
    · intro _ hl0
      rw [seen_end hl0] at hpm
      have hnl : ns.length = L.length := by rw [hpm.length_eq, List.length_map]
      have hpm2 : (ns.map nmL).Perm (L.map fun f => nmL f.nm) := by
        have := hpm.map nmL
        rw [List.map_map] at this
        exact this
      rw [enc_nm] at ho
      have Hpm := Lib.hid hpm2
      have HB := Lib.hid hB
      have Hnl := Lib.hid hnl
      have Ho := Lib.hid ho
      clear hpm hpm2 hB hrg ho
      rcases Ho.out.2 with ⟨rfl, h0⟩ | ⟨g, cap, cur, rfl, hbase, hbk, k1, k2, k3, k4⟩
      · have hns : ns = [] := List.eq_nil_of_length_eq_zero h0
        subst hns
        have HS := Lib.hid (Try.slices_Sort_string_none none 0 wr)
        clear h0 hnl
        go_wp2_with fail
        refine HS.out.mono ?_
        rintro e w4 ⟨rfl, rfl⟩
        go_wp2_with fail
        go_ret
        exact ⟨⟨.slice none 0 0, [], rfl, Hpm.out, by rw [← Hnl.out, List.mergeSort_nil]; exact Ho.out⟩, HB.out⟩
      · have hs := Try.slices_Sort_string g 0 cap (ns.map nmL) wr (holds_of_block hbk (by simpa using k4)) (lt_of_block hbk) (by rw [List.length_map]; omega)
        rw [List.length_map] at hs
        have HS := Lib.hid hs
        have ho4 := fun (w4 : World) n os (hw : w4 = Sort.grow (putRow encStr (Sort.ahead wr n) g 0 ((ns.map nmL).mergeSort fun x y => decide (x ≤ y)).toArray) os) => (by rw [hw]; exact ownsRow_sorted (by simp) hbase hbk (by rw [List.length_map]; exact k1) k2 k3 : w4.ownsRow w.heap.size 9 1 (.slice (some ⟨g, 0, none⟩) (ns.map nmL).length cap) (ns.map nmL).length (((ns.map nmL).mergeSort fun x y => decide (x ≤ y)).map encStr))
        have hg4 := fun (w4 : World) n os (hw : w4 = Sort.grow (putRow encStr (Sort.ahead wr n) g 0 ((ns.map nmL).mergeSort fun x y => decide (x ≤ y)).toArray) os) => (by rw [hw]; exact grownBy_sorted _ : wr.grownBy w4 (some g))
        have Ho4 := Lib.hid ho4
        have Hg4 := Lib.hid hg4
        clear hs ho4 hg4 hbk k1 k2 k3 k4 hnl
        go_wp2_with fail
        refine HS.out.mono ?_
        rintro e w4 ⟨rfl, n, os, hw⟩
        have hr := Ho4.out w4 n os hw
        have hb4 := HB.out.grown (Hg4.out w4 n os hw) HB.out.size (fun k hk => by injection hk with hk; omega)
        rw [List.length_map] at hr
        have Hr := Lib.hid hr
        have HB4 := Lib.hid hb4
        clear hr hb4 hw
        go_wp2_with fail
        go_ret
        exact ⟨⟨_, ns.map nmL, rfl, Hpm.out, by rw [← Hnl.out]; exact Hr.out⟩, HB4.out⟩
    · intro x c kl y1 y2 w2 cnt1 hkey hlk hv hat hrg1 hlt hg1 hs1 hen
      obtain ⟨f, hl, rfl, rfl⟩ := HDk.out.step (y := (y1, y2)) hkey hv hat
      obtain ⟨hf, hfn⟩ := look_some hl
      have hB1 : Below w.heap.size w w2 := hB.grown hg1 hB.size (fun k hk => by injection hk with hk; omega)
      have ho2 := rowS_of ho (fun g hg => hg1.block g (ho.lt g hg).2 (fun e => row_ne_iter ho hrg (e.symm.trans hg.symm)))
      have hst := seen_step (left := left) HD.out.nm hf (by rw [hfn]; exact hlk)
      rw [hfn] at hst
      have hnl : ns.length ≤ L.length := by
        rw [hpm.length_eq, List.length_map]; exact List.length_filter_le _ _
      have hen2 : (Instr.entry (.pointer (some ⟨w1.heap.size, 0, none⟩))).run Try.prog w2 = .ok (.tuple #[.string x, .pointer (some ⟨f.B, 0, none⟩)]) w2 := hen
      have HR1 := Lib.hid hrg1
      have HB2 := Lib.hid hB1
      have Ho2 := Lib.hid ho2
      have Hpm := Lib.hid (show (ns ++ [x]).Perm ((seen (strike left (keyL x)) L).map Fl.nm) from by
        refine (List.perm_append_comm.trans ?_)
        refine ((hpm.cons x).trans ?_)
        have := (hst.map Fl.nm).symm
        rw [List.map_cons, hfn] at this
        exact this)
      clear hrg1 hrg hB hB1 hst hat hkey hv hlk hg1 hs1 hen ho ho2 hpm
      go_wp2_with (first | (at_builtin; go_must (refine wpList_append_gen eltS rfl (.tmp 22) (.tmp 24) rfl rfl w.heap.size _ ns rfl (gen_own_below Ho2.out ((Below.refl _ _).alloc (Nat.le_refl _) _)) _ [x] (LAt.block rfl rfl (heap_alloc_new _ _)) rfl (by simp only [List.length_cons, List.length_nil]; omega) (by unfold maxLen; simp only [List.length_cons, List.length_nil]; omega) (by have := HB2.out.size; simp; omega) ?_); intro v3 w3 ho3 hg3))
      have hB3 := (HB2.out.alloc HB2.out.size (.cells #[.string x] 9)).grown hg3 (by have := HB2.out.size; simp; omega) (fun k hk => (Ho2.out.lt k hk).1)
      have hrg3 : w3.ranges Try.prog 9 ptrR mb w1.heap.size L.length D (strike left (keyL x)) cnt1 := by
        have hmlt : mb < w.heap.size := Hm.out.lt
        have hal : Below w2.heap.size w2 (w2.alloc (.cells #[.string x] 9)) := (Below.refl _ _).alloc (Nat.le_refl _) _
        have hrlt : w1.heap.size < w2.heap.size := by
          obtain ⟨_, _, _, _, _, _, _, _, _, hit, _⟩ := HR1.out
          exact (Array.getElem?_eq_some_iff.1 hit).1
        refine ranges_of HR1.out ((hg3.block mb (by have := HB2.out.size; simp; omega) (fun e => ?_)).trans (hal.block mb (by have := HB2.out.size; omega))) ((hg3.block w1.heap.size (by simp; omega) (fun e => row_ne_iter Ho2.out HR1.out e)).trans (hal.block _ hrlt))
        have := (Ho2.out.lt mb e.symm).1
        omega
      have HB3 := Lib.hid hB3
      have HR3 := Lib.hid hrg3
      have Ho3 := Lib.hid ho3
      clear hB3 hrg3 ho3 hg3
      go_wp2_with fail
      go_roundg cnt1
      case measure => exact hlt
      case rel => exact ⟨strike left (keyL x), ns ++ [x], HR3.out, Ho3.out, Hpm.out, HB3.out⟩
end Go.Proofs.Ytfmcemedaehcoaa
