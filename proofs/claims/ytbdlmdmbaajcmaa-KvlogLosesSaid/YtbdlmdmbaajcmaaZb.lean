/- A store's entries in memory; whether a key has one. -/
import Derived.Test.YtbdlmdmbaajcmaaD4
import Derived.Test.YtbdlmdmbaajcmaaC2
import Derived.Test.YtbdlmdmbaajcmaaG2
import Derived.Deep.CutRange
import Derived.Deep.DeepCutAuto
import Derived.Deep.QuietTactic
import Derived.BigQuiet
namespace Go.Proofs.Ytbdlmdmbaajcmaa
set_option linter.unusedVariables false
set_option linter.unusedSimpArgs false
open Go.ChangeShapes Go.WideShapes Go.ChangeAt Go.RowKit

theorem str_eqb (a b : ByteArray) : (a.toList == b.toList) = decide (a = b) := by
  rw [Lib.toList_data, Lib.toList_data, Bool.eq_iff_iff, beq_iff_eq, decide_eq_true_eq]
  exact ⟨fun h => ByteArray.ext (Array.toList_inj.1 h), fun h => by rw [h]⟩
theorem str_lit (y : ByteArray) (a : Array UInt8) : (y.toList == a.toList) = decide (y = ⟨a⟩) := by
  have h := str_eqb y ⟨a⟩
  rw [← h]
  congr 1
  rw [Lib.toList_data]
theorem ne_of_eqb {α : Type} [BEq α] {a b : α} {r : Bool} (h : (a == b) = r) : (a != b) = !r := by rw [bne, h]
theorem gen_shape {n : Nat} {X : Type} {fl : X → List Value} {w : World} {v : Value} {l : List X} (h : LAt n fl w v l) : ∃ p cap, v = .slice p l.length cap ∧ (0 < l.length → ∃ b off, p = some ⟨b, off, none⟩) := by
  rcases h.2 with ⟨p, cap, rfl, rfl⟩ | ⟨b, off, cap, rfl, _⟩
  · exact ⟨p, cap, rfl, fun h => absurd h (Nat.lt_irrefl _)⟩
  · exact ⟨_, cap, rfl, fun _ => ⟨b, off, rfl⟩⟩
/-- An entry. -/
abbrev En := ByteArray × ByteArray
def enV (t : En) : List Value := [.string t.1, .string t.2]
theorem enV_len (t : En) : (enV t).length = 2 := rfl
theorem enV_one : ∀ (x : En), ∀ u ∈ enV x, u.oneCell' = true := fun x u hu => by
  simp only [enV, List.mem_cons, List.not_mem_nil, or_false] at hu
  rcases hu with rfl | rfl <;> rfl
theorem eltN : Elt 76 92 2 32 enV := ⟨Try.underlying76, by kernel_rfl, info_elt (by kernel_rfl), by decide, enV_one⟩
/-- Where a key's entry stands. -/
def whereL (L : List En) (k : ByteArray) : Option Nat := L.findIdx? (fun e => decide (e.1 = k))
def idxV : Option Nat → Int
  | some i => (i : Nat)
  | none => -1
theorem whereL_some {L : List En} {k : ByteArray} {i : Nat} (hi : i < L.length) (he : L[i].1 = k) (hn : ∀ j (hj : j < L.length), j < i → L[j].1 ≠ k) : whereL L k = some i :=
  List.findIdx?_eq_some_iff_getElem.2 ⟨hi, decide_eq_true he, fun j hj => by simpa using hn j (by omega) hj⟩
theorem whereL_none {L : List En} {k : ByteArray} (hn : ∀ j (hj : j < L.length), L[j].1 ≠ k) : whereL L k = none :=
  List.findIdx?_eq_none_iff.2 fun x hx => by
    obtain ⟨j, hj, rfl⟩ := List.getElem_of_mem hx
    exact decide_eq_false (hn j hj)
theorem whereL_lt {L : List En} {k : ByteArray} {i : Nat} (h : whereL L k = some i) : ∃ hi : i < L.length, L[i].1 = k := by
  obtain ⟨hi, h1, _⟩ := List.findIdx?_eq_some_iff_getElem.1 h
  exact ⟨hi, of_decide_eq_true h1⟩
def dropL (L : List En) (k : ByteArray) : List En := match whereL L k with
  | some i => L.eraseIdx i
  | none => L
/-- A store: its block, the row of its entries. -/
def stA (d : Nat) (nm : ByteArray) (m : Int) (lv : Value) : Array Value := #[.pointer (some ⟨d, 0, none⟩), .string nm, .int .i64 m, lv]
structure St (T : Nat → Prop) (b d : Nat) (nm : ByteArray) (m : Int) (L : List En) (w : World) : Prop where
  f : ∃ lv, w.heap[b]? = some (.cells (stA d nm m lv) 78 (0, 0)) ∧ w.ownsRow (b + 1) 92 2 lv L.length (LF enV L) ∧ ∀ g, lv.ownBlock = some g → T g
  s : T b
theorem St.bl {T : Nat → Prop} {b d : Nat} {nm : ByteArray} {m : Int} {L : List En} {w : World} (h : St T b d nm m L w) : b < w.heap.size := by
  obtain ⟨lv, h1, _⟩ := h.f
  exact lt_of_block h1
theorem own_block {w : World} {base : Nat} {v : Value} {n : Nat} {xs : List Value} (h : w.ownsRow base 92 2 v n xs) {w' : World} (e : ∀ g, v.ownBlock = some g → w'.heap[g]? = w.heap[g]?) : w'.ownsRow base 92 2 v n xs := by
  refine ⟨h.1, ?_⟩
  rcases h.2 with h | ⟨g, cap, cur, hv, hg, hh, rest⟩
  · exact .inl h
  · exact .inr ⟨g, cap, cur, hv, hg, (e g (by rw [hv]; rfl)).trans hh, rest⟩
theorem own_lt {w : World} {base : Nat} {v : Value} {n : Nat} {xs : List Value} (h : w.ownsRow base 92 2 v n xs) : ∀ g, v.ownBlock = some g → g < w.heap.size ∧ base ≤ g := fun g hg => by
  rcases h.2 with ⟨hv, _⟩ | ⟨g2, cap, cur, hv, hb, hh, rest⟩
  · rw [hv] at hg; cases hg
  · rw [hv] at hg
    injection hg with hg
    subst hg
    exact ⟨lt_of_block hh, hb⟩
theorem St.below {T : Nat → Prop} {b d : Nat} {nm : ByteArray} {m : Int} {L : List En} {w w' : World} (h : St T b d nm m L w) (hB : Below w.heap.size w w') : St T b d nm m L w' := by
  obtain ⟨lv, h1, h2, h3⟩ := h.f
  exact ⟨⟨lv, (hB.block _ (lt_of_block h1)).trans h1, gen_own_below h2 hB, h3⟩, h.s⟩
theorem St.kept {T T2 : Nat → Prop} {b d : Nat} {nm : ByteArray} {m : Int} {L : List En} {w w' : World} (h : St T b d nm m L w) (hk : Kept T2 w w') (hd : ∀ k, T k → ¬ T2 k) : St T b d nm m L w' := by
  obtain ⟨lv, h1, h2, h3⟩ := h.f
  exact ⟨⟨lv, (hk.block _ (lt_of_block h1) (hd _ h.s)).trans h1, own_block h2 (fun g hg => hk.block g (own_lt h2 g hg).1 (hd g (h3 g hg))), h3⟩, h.s⟩
theorem St.mono {T T2 : Nat → Prop} {b d : Nat} {nm : ByteArray} {m : Int} {L : List En} {w : World} (h : St T b d nm m L w) (hd : ∀ k, T k → T2 k) : St T2 b d nm m L w := by
  obtain ⟨lv, h1, h2, h3⟩ := h.f
  exact ⟨⟨lv, h1, h2, fun g hg => hd g (h3 g hg)⟩, hd _ h.s⟩
theorem own_sliceN {w : World} {base : Nat} {v : Value} {n : Nat} {xs : List Value} (h : w.ownsRow base 92 2 v n xs) : ∃ p c, v = .slice p n c := by
  rcases h.2 with ⟨h1, h2⟩ | ⟨g, cap, cur, hv, _⟩
  · subst h1; exact ⟨none, 0, by rw [h2]⟩
  · exact ⟨_, cap, hv⟩
theorem LAt.cellsN {w : World} {b off cap n_ : Nat} {l : List En} (h : LAt 2 enV w (.slice (some ⟨b, off, none⟩) n_ cap) l) {i : Nat} {x y : ByteArray} (hx : l[i]? = some (x, y)) :
    b < w.heap.size ∧ w.cell? ⟨b, off + i * 2, none⟩ = some (.string x) ∧ w.cell? ⟨b, off + i * 2 + 1, none⟩ = some (.string y) := by
  obtain ⟨hl, h⟩ := h
  rcases h with ⟨p, cap, hv, rfl⟩ | ⟨b', off', cap', hv, hb, hcap, hmax, hcell⟩
  · simp at hx
  · injection hv with hv1 hv2 hv3
    injection hv1 with hv1
    injection hv1 with hv4 hv5
    subst hv4; subst hv5
    have g : ∀ j, j < 2 → ∀ z, (enV (x, y))[j]? = some z → w.cell? ⟨b, off + i * 2 + j, none⟩ = some z := fun j hj z hz => by
      have := hcell (i * 2 + j) z (by rw [LF_at l (fun y _ => enV_len y) i _ hx j hj]; exact hz)
      rw [Nat.add_assoc]; exact this
    exact ⟨hb, g 0 (by omega) _ rfl, g 1 (by omega) _ rfl⟩
set_option maxRecDepth 100000 in
set_option maxHeartbeats 1000000 in
theorem clos65_any (bx : Nat) (k a v : ByteArray) (w : World) (h : w.heap[bx]? = some (.cells #[.string k] 9 (0, 0))) :
    Calls Try.prog 65 #[.agg #[.string a, .string v], .pointer (some ⟨bx, 0, none⟩)] w fun e w' => e = .returned (.bool (decide (a = k))) ∧ Below w.heap.size w w' := by
  have ke := str_eqb a k
  generalize decide (a = k) = r at *
  have hbx : bx < w.heap.size := lt_of_block h
  go_enter Try.func65, Try.ntmps65
  go_upto_region 1 with fail
  have hnew := heap_alloc_new w (.cells #[.string a, .string v] 92)
  have hBa := (Below.refl w.heap.size w).alloc (Nat.le_refl _) (.cells #[.string a, .string v] 92)
  have c0 := block_cell hnew 0
  have c1 := block_cell ((hBa.block bx hbx).trans h) 0
  have HB := Lib.hid hBa
  clear hBa hnew h
  generalize w.alloc (.cells #[.string a, .string v] 92) = w1 at *
  go_wp2_with fail
  go_ret
  exact ⟨rfl, HB.out⟩
set_option maxRecDepth 100000 in
set_option maxHeartbeats 2000000 in
theorem index64_any (bx : Nat) (k : ByteArray) (l : List En) (v : Value) (w : World) (h : w.heap[bx]? = some (.cells #[.string k] 9 (0, 0))) (hv : LAt 2 enV w v l) (hl : l.length ≤ 16777216) :
    Calls Try.prog 64 #[v, .func (.func 65) #[] #[.pointer (some ⟨bx, 0, none⟩)]] w fun e w' => e = .returned (.int .i64 (idxV (whereL l k))) ∧ Below w.heap.size w w' := by
  obtain ⟨p, cap, rfl, hp⟩ := gen_shape hv
  have H := Lib.hid h
  have HV := Lib.hid hv
  clear h hv
  go_enter Try.func64, Try.ntmps64
  go_wp2_with fail
  go_loopg [5, 8] l.length (fun g _ iv wr => ∃ i : Nat, i + g = l.length ∧ iv = .int .i64 i ∧ Hid (∀ j (hj : j < l.length), j < i → l[j].1 ≠ k) ∧ Below w.heap.size w wr)
  case atStart => exact ⟨0, by omega, rfl, Lib.hid (fun j _ h => absurd h (Nat.not_lt_zero _)), Below.refl _ _⟩
  case round =>
    obtain ⟨i, hig, rfl, HA, hBr⟩ := hrel
    have HBr := Lib.hid hBr
    clear hBr
    by_cases hi : i < l.length
    case neg =>
      have hiI : ¬ (i : Int) < (l.length : Int) := by omega
      have HN := Lib.hid (whereL_none (L := l) (k := k) (fun j hj => HA.out j hj (by omega)))
      go_wp2_with fail
      go_ret
      rw [HN.out]
      exact ⟨rfl, HBr.out⟩
    have hiI : (i : Int) < (l.length : Int) := by omega
    obtain ⟨b, off, rfl⟩ := hp (by omega)
    have hxi : l[i]? = some l[i] := List.getElem?_eq_getElem hi
    obtain ⟨x1, x2, hx⟩ : ∃ x1 x2, l[i] = (x1, x2) := ⟨_, _, rfl⟩
    rw [hx] at hxi
    obtain ⟨hb, hl1, hl2⟩ := HV.out.cellsN hxi
    have d1 := (HBr.out.cell (p := ⟨b, off + i * 2, none⟩) hb).trans hl1
    have d2 := (HBr.out.cell (p := ⟨b, off + i * 2 + 1, none⟩) hb).trans hl2
    have HX := Lib.hid hx
    have HC := Lib.hid (clos65_any bx k x1 x2 wr ((HBr.out.block bx (lt_of_block H.out)).trans H.out))
    clear hxi hx hl1 hl2
    obtain ⟨q, hq⟩ : ∃ q, decide (x1 = k) = q := ⟨_, rfl⟩
    rw [hq] at HC
    have HQ := Lib.hid hq
    clear hq
    cases q with
    | true =>
      have HS := Lib.hid (whereL_some (L := l) (k := k) (i := i) hi (by rw [HX.out]; exact of_decide_eq_true HQ.out) HA.out)
      go_wp2_with fail
      refine HC.out.mono ?_
      rintro e w' ⟨rfl, hb'⟩
      go_wp2_with fail
      go_ret
      rw [HS.out]
      exact ⟨rfl, HBr.out.trans (hb'.mono HBr.out.size)⟩
    | false =>
      go_wp2_with fail
      refine HC.out.mono ?_
      rintro e w' ⟨rfl, hb'⟩
      go_wp2_with fail
      go_roundg (gk - 1)
      case measure => omega
      case rel =>
        refine ⟨i + 1, by omega, by go_num, Lib.hid (fun j hj hji => ?_), HBr.out.trans (hb'.mono HBr.out.size)⟩
        by_cases he : j = i
        · subst he
          rw [HX.out]
          exact of_decide_eq_false HQ.out
        · exact HA.out j hj (by omega)
set_option maxRecDepth 100000 in
set_option maxHeartbeats 1000000 in
/-- Where a key's entry stands. -/
theorem where_any {T : Nat → Prop} {b d : Nat} {nm : ByteArray} {m : Int} {L : List En} {w : World} (st : St T b d nm m L w) (hl : L.length ≤ 16777216) (k : ByteArray) :
    Calls Try.prog 41 #[.pointer (some ⟨b, 0, none⟩), .string k] w fun e w' => e = .returned (.int .i64 (idxV (whereL L k))) ∧ Below w.heap.size w w' := by
  obtain ⟨lv, h1, h2, _⟩ := st.f
  obtain ⟨p, c, rfl⟩ := own_sliceN h2
  have hlat := LAt.own (fun x _ => enV_len x) h2
  have hnew := heap_alloc_new w (.cells #[.string k] 9)
  have hBa := (Below.refl w.heap.size w).alloc (Nat.le_refl _) (.cells #[.string k] 9)
  have HI := Lib.hid (index64_any w.heap.size k L _ _ hnew (hlat.below hBa) hl)
  have c3 := block_cell ((hBa.block b (lt_of_block h1)).trans h1) 3
  rw [show (stA d nm m (.slice p L.length c))[3]? = some (.slice p L.length c) from rfl] at c3
  have HB := Lib.hid hBa
  clear hBa hnew h1 h2 hlat st
  generalize idxV (whereL L k) = z at *
  go_enter Try.func41, Try.ntmps41
  go_upto_region 1 with fail
  generalize w.alloc (.cells #[.string k] 9) = w1 at *
  go_wp2_with fail
  refine HI.out.mono ?_
  rintro e w2 ⟨rfl, hB2⟩
  have HB2 := Lib.hid (HB.out.trans (hB2.mono HB.out.size))
  clear hB2
  go_wp2_with fail
  go_ret
  exact ⟨rfl, HB2.out⟩
end Go.Proofs.Ytbdlmdmbaajcmaa
