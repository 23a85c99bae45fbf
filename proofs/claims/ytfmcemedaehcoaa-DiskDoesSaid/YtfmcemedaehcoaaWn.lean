/- Walks: bytes as they come in; whether a device lives. -/
import Derived.Test.YtfmcemedaehcoaaWm
import Derived.ChangeSlices
import Derived.Laws.IdiomStrings
import Derived.Laws.BytesArg
namespace Go.Proofs.Ytfmcemedaehcoaa
set_option linter.unusedVariables false
set_option linter.unusedSimpArgs false
open Go.ChangeShapes Go.WideShapes Go.ChangeAt Go.RowKit Go.ChangeMaps

def mkB (l : List UInt8) : ByteArray := ⟨l.toArray⟩
def BytsA (w : World) (v : Value) (l : List UInt8) : Prop :=
  (v = .slice none 0 0 ∧ l = []) ∨ (∃ x cap, v = .slice (some x) 0 cap ∧ l = []) ∨
  ∃ b off cap, v = .slice (some ⟨b, off, none⟩) l.length cap ∧ l.length ≤ cap ∧ cap ≤ maxLen ∧ b < w.heap.size ∧ ∀ i, i < l.length → w.cell? ⟨b, off + i, none⟩ = some (.int .u8 (l.getD i 0).toNat)
/-- Bytes that came in. -/
theorem byts_open {H : Type} {enc : TypeId × Value → H} {P : Program} {W : World} {base : Nat} {t e : TypeId} (ht : P.underlying t = some (.slice e)) (he : P.underlying e = some (.int .u8)) (hc : P.cellsOf e = 1)
    {a : Option Addr} {len cap fuel : Nat} {d : DataW H} {p : List MemPlace} (hf : DataW.trod enc P W base (fun _ => true) true fuel t (Value.slice a len cap).cells.toList = some (d, p)) :
    ∃ l, BytsA W (.slice a len cap) l ∧ l.length ≤ 9223372036854775807 := by
  rcases open_ints ht he hc hf with ⟨hcs, _⟩ | ⟨x, l, c, zs, hcs, _, hl, hm, hz, _, hcell, hwz⟩
  · simp [Value.cells] at hcs
    obtain ⟨rfl, rfl, rfl⟩ := hcs
    exact ⟨[], .inl ⟨rfl, rfl⟩, by simp⟩
  · simp [Value.cells] at hcs
    obtain ⟨rfl, rfl, rfl⟩ := hcs
    have hz' : zs.length = cap := by simpa using hz
    by_cases h0 : len = 0
    · subst h0; exact ⟨[], .inr (.inl ⟨_, _, rfl, rfl⟩), by simp⟩
    · obtain ⟨b, off, spot⟩ := x
      have hc0 := hcell 0 (by omega)
      have hspot : spot = none := by simpa [Addr.add] using World.cell?_spot hc0
      subst hspot
      have hlen : ((zs.take len).map fun n => UInt8.ofNat n.toNat).length = len := by rw [List.length_map, List.length_take]; omega
      refine ⟨(zs.take len).map fun n => UInt8.ofNat n.toNat, .inr (.inr ⟨b, off, cap, by rw [hlen], by rw [hlen]; exact hl, hm, ?_, fun i hi => ?_⟩), by rw [hlen]; unfold maxLen at hm; omega⟩
      · have := World.block_lt_of_cell? W _ hc0
        simpa [Addr.add] using this
      · have h1 := hcell i (by omega)
        rw [hlen] at hi
        rw [gen_add_off] at h1
        rw [h1]
        have hwf := hwz (zs.getD i 0) (by rw [List.getD_eq_getElem?_getD, List.getElem?_eq_getElem (by omega)]; simp)
        have hb : 0 ≤ zs.getD i 0 ∧ zs.getD i 0 ≤ 255 := by simpa [Lit.wf, IntKind.min, IntKind.max, IntKind.bits, IntKind.signed] using hwf
        have e : ((zs.take len).map fun n => UInt8.ofNat n.toNat).getD i 0 = UInt8.ofNat (zs.getD i 0).toNat := by
          rw [List.getD_eq_getElem?_getD, List.getD_eq_getElem?_getD, List.getElem?_map, List.getElem?_take_of_lt hi, List.getElem?_eq_getElem (by omega)]
          simp
        rw [e]
        have e2 : ((UInt8.ofNat (zs.getD i 0).toNat).toNat : Int) = zs.getD i 0 := by
          rw [UInt8.toNat_ofNat']
          omega
        rw [e2]

theorem BytsA.lat {w : World} {v : Value} {l : List UInt8} (h : BytsA w v l) : LAt 1 bV w v l := by
  refine ⟨fun x _ => bV_len x, ?_⟩
  rcases h with ⟨rfl, rfl⟩ | ⟨x, cap, rfl, rfl⟩ | ⟨b, off, cap, rfl, h1, h2, h3, h4⟩
  · exact .inl ⟨_, _, rfl, rfl⟩
  · exact .inl ⟨_, _, rfl, rfl⟩
  · refine .inr ⟨b, off, cap, rfl, h3, h1, h2, fun j x hx => ?_⟩
    rw [LF_bV] at hx
    have hj := (List.getElem?_eq_some_iff.1 hx).1
    rw [List.length_map] at hj
    rw [h4 j hj, ← hx, List.getElem?_map, List.getElem?_eq_getElem hj]
    simp [List.getD, hj]
theorem lat_conv {w : World} {u : Value} {l : List UInt8} (h : LAt 1 bV w u l) : (convert 29 9 u).run Try.prog w = .ok (.string (mkB l)) w := by
  rcases h.2 with ⟨p, cap, rfl, rfl⟩ | ⟨b, off, cap, rfl, h1, h2, h3, h4⟩
  · cases p with
    | none => exact run_convert_bytes_nil _ 29 5 Try.underlying29 Try.underlying5 _ _ 9 Try.underlying9
    | some x => exact run_convert_bytes_back w 29 9 5 x cap [] Try.underlying29 Try.underlying5 Try.underlying9 (fun j hj => by simp at hj)
  · refine run_convert_bytes_back w 29 9 5 ⟨b, off, none⟩ cap l Try.underlying29 Try.underlying5 Try.underlying9 (fun j hj => ?_)
    rw [gen_add_off]
    refine h4 j _ ?_
    rw [LF_bV, List.getElem?_map, List.getElem?_eq_getElem hj]; rfl
theorem own_conv {w : World} {base : Nat} {v : Value} {l : List UInt8} (h : w.ownsRow base 5 1 v l.length (LF bV l)) : (convert 29 9 v).run Try.prog w = .ok (.string (mkB l)) w := lat_conv (LAt.own (fun x _ => bV_len x) h)
theorem cell_block {w w' : World} {b i : Nat} (h : w'.heap[b]? = w.heap[b]?) : w'.cell? ⟨b, i, none⟩ = w.cell? ⟨b, i, none⟩ := by
  unfold World.cell?
  simp only [h]
theorem LAt.kept {S : Nat → Prop} {w w' : World} {u : Value} {l : List UInt8} (h : LAt 1 bV w u l) (hn : ∀ g, u.ownBlock = some g → ¬ S g) (hk : Kept S w w') : LAt 1 bV w' u l := by
  refine ⟨h.1, ?_⟩
  rcases h.2 with h | ⟨b, off, cap, rfl, h2, h3, h4, h5⟩
  · exact .inl h
  · exact .inr ⟨b, off, cap, rfl, Nat.lt_of_lt_of_le h2 hk.size, h3, h4, fun j x hx => (cell_block (hk.block b h2 (hn b rfl))).trans (h5 j x hx)⟩
theorem LAt.byt {S : Nat → Prop} {w : World} {u : Value} {l : List UInt8} (h : LAt 1 bV w u l) (hn : ∀ g, u.ownBlock = some g → ¬ S g) : Byt S w u l := ⟨fun w1 hk => h.kept hn hk⟩
theorem LAt.lt {w : World} {u : Value} {l : List UInt8} (h : LAt 1 bV w u l) (hl : 0 < l.length) {g : Nat} (hg : u.ownBlock = some g) : g < w.heap.size := by
  rcases h.2 with ⟨p, cap, rfl, rfl⟩ | ⟨b, off, cap, rfl, h2, _⟩
  · simp at hl
  · injection hg with hg; rw [← hg]; exact h2
/-- What came in lies below. -/
theorem LAt.byt_in {B n : Nat} {w : World} {u : Value} {l : List UInt8} (h : LAt 1 bV w u l) (hb : w.heap.size ≤ B) : ∀ w1, Kept (In B n) w w1 ∨ Below w.heap.size w w1 → LAt 1 bV w1 u l := by
  intro w1 h1
  refine ⟨h.1, ?_⟩
  rcases h.2 with h | ⟨b, off, cap, rfl, h2, h3, h4, h5⟩
  · exact .inl h
  · have e : w1.heap[b]? = w.heap[b]? := by
      rcases h1 with h1 | h1
      · exact h1.block b h2 (fun hx => by have := hx.1; omega)
      · exact h1.block b h2
    have hs : w.heap.size ≤ w1.heap.size := by rcases h1 with h1 | h1 <;> exact h1.size
    exact .inr ⟨b, off, cap, rfl, Nat.lt_of_lt_of_le h2 hs, h3, h4, fun j x hx => (cell_block e).trans (h5 j x hx)⟩
/-- A row that was made of late. -/
theorem row_byt {B n : Nat} {w : World} {g : Nat} (l : List UInt8) (h : w.heap[g]? = some (.cells (LF bV l).toArray 5 (0, 0))) (hl : 0 < l.length) (hx : l.length ≤ maxLen) (hg : n ≤ g) : Byt (In B n) w (.slice (some ⟨g, 0, none⟩) l.length l.length) l := by
  refine LAt.byt ⟨fun x _ => bV_len x, .inr ⟨g, 0, l.length, rfl, lt_of_block h, Nat.le_refl _, hx, fun j x hj => ?_⟩⟩ (fun k hk => ?_)
  · rw [block_cell h, Nat.zero_add]
    simpa using hj
  · obtain rfl : g = k := by simpa [Value.ownBlock] using hk
    intro hh; have := hh.2; omega
theorem byt_nil (S : Nat → Prop) (w : World) : Byt S w (.slice none 0 0) [] := ⟨fun _ _ => ⟨fun x hx => bV_len x, .inl ⟨_, _, rfl, rfl⟩⟩⟩
def FF : ByteArray := ⟨#[102]⟩
end Go.Proofs.Ytfmcemedaehcoaa
